package satchel_test

import (
	"regexp"
	"strings"
	"testing"

	"satchel/api"
	"satchel/satchel"
)

const nameElement = `[A-Za-z0-9_-]([A-Za-z0-9_.-]*[A-Za-z0-9_-])?`

// (?s) and \z: a newline at the end is a byte like others.
var namePattern = regexp.MustCompile(`(?s)\A` + nameElement + `(/` + nameElement + `)*\z`)

func wantedOfName(s string) api.Errno {
	if len(s) <= 60 && namePattern.MatchString(s) {
		return api.OK
	}
	return api.ErrName
}

func TestNamesThatAre(t *testing.T) {
	for _, s := range []string{
		"a", "Z", "0", "-", "_", "--", "a.b", "a..b", "a-", "-a", "_a_",
		"example.org/Some_Thing/v2", "a/b/c/d/e", "A/B",
		strings.Repeat("x", 60),
		strings.Repeat("x/", 29) + "xy",
	} {
		if e := satchel.CheckName(s); e != api.OK {
			t.Errorf("P3: CheckName(%q) = %d", s, e)
		}
	}
}

func TestNamesThatAreNone(t *testing.T) {
	for _, s := range []string{
		"", "/", "//", "/a", "a/", "a//b", ".", "..", ".a", "a.", "a/.", "./a", "a./b", "a/.b", "a/b.",
		"a b", " a", "a ", "a!b", "!a", "a@b", "a:b", "a\\b", "a+b", "a~b", "a\n", "a\x00", "\x00", "\xff", "ä", "a\u2044b",
		strings.Repeat("x", 61),
		strings.Repeat("x/", 30) + "x",
	} {
		if e := satchel.CheckName(s); e != api.ErrName {
			t.Errorf("P3: CheckName(%q) = %d, want ErrName", s, e)
		}
	}
}

func TestEveryByteInNames(t *testing.T) {
	for c := range 256 {
		b := string([]byte{byte(c)})
		for _, s := range []string{b, b + "x", "x" + b, "x" + b + "y", "x/" + b, b + "/x", "x/" + b + "/y", "x/y" + b + "z"} {
			if e, want := satchel.CheckName(s), wantedOfName(s); e != want {
				t.Errorf("P3: CheckName(%q) = %d, want %d", s, e, want)
			}
		}
	}
}

func TestAllShortNames(t *testing.T) {
	eachText("aB./-!", 6, func(s string) {
		if e, want := satchel.CheckName(s), wantedOfName(s); e != want {
			t.Errorf("P3: CheckName(%q) = %d, want %d", s, e, want)
		}
	})
}

func TestLongTextsAreNoNames(t *testing.T) {
	for _, s := range longTexts() {
		if e := satchel.CheckName(s); e != api.ErrName {
			t.Errorf("P1, P3: CheckName(%.40q..) = %d, want ErrName", s, e)
		}
	}
}
