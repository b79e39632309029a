package satchel_test

import (
	"regexp"
	"strings"
	"testing"

	"satchel/api"
	"satchel/satchel"
)

const (
	versionNumber = `(0|[1-9][0-9]{0,8})`
	versionMark   = `(` + versionNumber + `|[A-Za-z0-9-]*[A-Za-z-][A-Za-z0-9-]*)`
)

var versionPattern = regexp.MustCompile(`(?s)\Av` + versionNumber + `\.` + versionNumber + `\.` + versionNumber +
	`(-` + versionMark + `(\.` + versionMark + `)*)?\z`)

func wantedOfVersion(s string) api.Errno {
	if len(s) <= 30 && versionPattern.MatchString(s) {
		return api.OK
	}
	return api.ErrVersion
}

func TestVersionsThatAre(t *testing.T) {
	for _, s := range []string{
		"v0.0.0", "v1.2.3", "v10.20.30", "v100.0.0",
		"v999999999.0.0", "v0.999999999.0", "v0.0.999999999", "v999999999.999999999.999999999",
		"v1.0.0-0", "v1.0.0-1", "v1.0.0-999999999", "v1.0.0-a.999999999",
		"v1.0.0-a", "v1.0.0-A", "v1.0.0-rc.1", "v1.0.0--", "v1.0.0---", "v1.0.0-1-", "v1.0.0--1",
		"v1.0.0-0a", "v1.0.0-00a", "v1.0.0-1234567890a", "v1.0.0-a1234567890", "v1.0.0-01-", "v1.0.0-0-0",
		"v1.0.0-" + strings.Repeat("a", 23),
		"v1.0.0-" + strings.Repeat("a.", 11) + "a",
	} {
		if e := satchel.CheckVersion(s); e != api.OK {
			t.Errorf("P3: CheckVersion(%q) = %d", s, e)
		}
	}
}

func TestVersionsThatAreNone(t *testing.T) {
	for _, s := range []string{
		"", "v", "V1.0.0", "1.0.0", "vv1.0.0", "v1", "v1.", "v1.0", "v1.0.", "v1.0.0.", "v1.0.0.0", ".1.0.0", "v.0.0", "v1..0", "v1.0.-a",
		"v01.0.0", "v1.00.0", "v1.0.01", "v00.0.0", "v-1.0.0", "v+1.0.0", "v1.-1.0", "v1.a.0", "v1.0.0a", "v1.0x.0", "v0x1.0.0", "v1_0.0.0",
		"v1000000000.0.0", "v0.1000000000.0", "v0.0.1000000000", "v0000000001.0.0",
		"v999999999.999999999.9999999990",
		"v1.0.0-", "v1.0.0-.", "v1.0.0-a.", "v1.0.0-.a", "v1.0.0-a..b", "v1.0-a", "v1-a", "v-a",
		"v1.0.0-00", "v1.0.0-01", "v1.0.0-a.01", "v1.0.0-1000000000", "v1.0.0-a.1000000000", "v1.0.0-0000000000",
		"v1.0.0+a", "v1.0.0-a+b", "v1.0.0-a_b", "v1.0.0-a/b", "v1.0.0-!a", "v1.0.0-a ", "v1.0.0 ", " v1.0.0", "v1.0.0\n", "v1.0.0\x00", "v1.0.0-\xff", "v1.0.0-ä", "v١.0.0",
		"v1.0.0-" + strings.Repeat("a", 24),
		"v1.0.0-" + strings.Repeat("a.", 11) + "aa",
	} {
		if e := satchel.CheckVersion(s); e != api.ErrVersion {
			t.Errorf("P3: CheckVersion(%q) = %d, want ErrVersion", s, e)
		}
	}
}

func TestEveryByteInVersions(t *testing.T) {
	for c := range 256 {
		b := string([]byte{byte(c)})
		for _, s := range []string{b, b + "1.0.0", b + "v1.0.0", "v" + b + ".0.0", "v1" + b + "0.0", "v1.0." + b, "v1.0.0" + b, "v1.0.0" + b + "a", "v1.0.0-" + b, "v1.0.0-a" + b, "v1.0.0-1" + b, "v1.0.0-a" + b + "b", "v1.0.0-0" + b + "1"} {
			if e, want := satchel.CheckVersion(s), wantedOfVersion(s); e != want {
				t.Errorf("P3: CheckVersion(%q) = %d, want %d", s, e, want)
			}
		}
	}
}

func TestAllShortVersions(t *testing.T) {
	check := func(s string) {
		if e, want := satchel.CheckVersion(s), wantedOfVersion(s); e != want {
			t.Errorf("P3: CheckVersion(%q) = %d, want %d", s, e, want)
		}
	}
	eachText("01.-a", 6, func(s string) { check("v" + s) })
	eachText("01.-a_", 5, func(s string) { check("v1.0.0-" + s) })
}

func TestLongTextsAreNoVersions(t *testing.T) {
	for _, s := range longTexts() {
		if e := satchel.CheckVersion(s); e != api.ErrVersion {
			t.Errorf("P1, P3: CheckVersion(%.40q..) = %d, want ErrVersion", s, e)
		}
		for _, pair := range [][2]string{{s, "v1.0.0"}, {"v1.0.0", s}, {s, s}} {
			if c, e := satchel.Compare(pair[0], pair[1]); c != 0 || e != api.ErrVersion {
				t.Errorf("P1, P3: Compare(%.40q, %.40q) = %d, %d, want ErrVersion", pair[0], pair[1], c, e)
			}
		}
	}
}
