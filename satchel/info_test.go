package satchel_test

import (
	"encoding/json"
	"fmt"
	"regexp"
	"strings"
	"testing"

	"satchel/api"
	"satchel/satchel"
)

const (
	infoBlanks = `[ \t\n\r]*`
	infoString = `"(?:[ !#-\[\]-~]|\\["\\/nt])*"`
	infoValue  = infoString + `|true|false|null|-?(?:0|[1-9][0-9]{0,8})`
	infoField  = infoBlanks + infoString + infoBlanks + `:` + infoBlanks + `(?:` + infoValue + `)` + infoBlanks
)

var (
	infoPattern = regexp.MustCompile(`\A` + infoBlanks + `\{(?:` + infoBlanks + `|` + infoField + `(?:,` + infoField + `)*)\}` + infoBlanks + `\z`)
	infoNames   = regexp.MustCompile(`(` + infoString + `)` + infoBlanks + `:` + infoBlanks + `(?:` + infoValue + `)`)
)

// slowInfo is Info by a pattern of whole texts, and by the library.
func slowInfo(s string) (api.About, api.Errno) {
	var fields map[string]any
	if !infoPattern.MatchString(s) || json.Unmarshal([]byte(s), &fields) != nil {
		return api.About{}, api.ErrInfo
	}
	// The library lets the last of two fields stand.
	version, _ := fields["Version"].(string)
	if len(infoNames.FindAllString(s, -1)) != len(fields) || wantedOfVersion(version) != api.OK {
		return api.About{}, api.ErrInfo
	}
	time, _ := fields["Time"].(string)
	return api.About{Version: version, Time: time}, api.OK
}

func checkInfo(t *testing.T, s string, want api.About) {
	t.Helper()
	if got, e := satchel.Info(s); got != want || e != api.OK {
		t.Errorf("P7: Info(%.200q) = %q, %d, want %q", s, got, e, want)
	}
}

func checkNoInfo(t *testing.T, s string) {
	t.Helper()
	if got, e := satchel.Info(s); got != (api.About{}) || e != api.ErrInfo {
		t.Errorf("P1, P7: Info(%.200q) = %q, %d, want ErrInfo", s, got, e)
	}
}

func checkInfoAsReference(t *testing.T, s string) {
	t.Helper()
	if want, e := slowInfo(s); e == api.OK {
		checkInfo(t, s, want)
	} else {
		checkNoInfo(t, s)
	}
}

func TestInfoThatIs(t *testing.T) {
	for s, want := range map[string]api.About{
		`{"Version": "v1.0.0", "Time": "now"}`:                                 {Version: "v1.0.0", Time: "now"},
		`{"Time":"now","Version":"v1.0.0-rc.1"}`:                               {Version: "v1.0.0-rc.1", Time: "now"},
		`{"Version":"v1.0.0"}`:                                                 {Version: "v1.0.0"},
		"\t\r\n {\t\r\n \"Version\"\t\r\n :\t\r\n \"v1.0.0\"\t\r\n }\t\r\n ":   {Version: "v1.0.0"},
		"{\"Version\":\"v1.0.0\"\n,\n\"Time\"\n:\n\"\"\n}":                     {Version: "v1.0.0"},
		`{"Version":"v1.0.0","Time":1}`:                                        {Version: "v1.0.0"},
		`{"Version":"v1.0.0","Time":-1}`:                                       {Version: "v1.0.0"},
		`{"Version":"v1.0.0","Time":null}`:                                     {Version: "v1.0.0"},
		`{"Version":"v1.0.0","Time":true}`:                                     {Version: "v1.0.0"},
		`{"Version":"v1.0.0","Time":false}`:                                    {Version: "v1.0.0"},
		`{"Version":"v1.0.0","time":"now","TIME":"then"}`:                      {Version: "v1.0.0"},
		`{"Version":"v1.0.0","version":"x","VERSION":1,"Version ":null}`:       {Version: "v1.0.0"},
		`{"Version":"v1.0.0","Time":"\"\\\/\n\t"}`:                             {Version: "v1.0.0", Time: "\"\\/\n\t"},
		`{"Version":"v1.0.0","Time":"{\"Version\":\"v2.0.0\"}"}`:               {Version: "v1.0.0", Time: `{"Version":"v2.0.0"}`},
		`{"Version":"v1.0.0","Time":"  a  "}`:                                  {Version: "v1.0.0", Time: "  a  "},
		`{"":"","a":0,"b":-0,"c":999999999,"d":-999999999,"Version":"v1.0.0"}`: {Version: "v1.0.0"},
		`{"a":true,"b":false,"c":null,"d":"e","Version":"v1.0.0"}`:             {Version: "v1.0.0"},
		`{"a":"Version","b":"Time","Version":"v1.0.0"}`:                        {Version: "v1.0.0"},
	} {
		checkInfo(t, s, want)
	}
}

func TestInfoThatIsNone(t *testing.T) {
	for _, s := range []string{
		"", " ", "{}", "{ }", "{", "}", "[]", "null", "true", "1", `"v1.0.0"`, "v1.0.0", `["Version","v1.0.0"]`, `[{"Version":"v1.0.0"}]`,
		`{"Version":"v1.0.0"`, `"Version":"v1.0.0"}`, `{"Version":"v1.0.0",}`, `{,"Version":"v1.0.0"}`, `{"Version":"v1.0.0",,"a":1}`, `{"Version":"v1.0.0" "a":1}`, `{"Version":"v1.0.0";"a":1}`,
		`{"Version"}`, `{"Version":}`, `{"Version" "v1.0.0"}`, `{"Version"="v1.0.0"}`, `{"Version"::"v1.0.0"}`, `{:"v1.0.0"}`, `{Version:"v1.0.0"}`, `{'Version':'v1.0.0'}`, `{"Version":v1.0.0}`, `{null:1,"Version":"v1.0.0"}`, `{1:1,"Version":"v1.0.0"}`,
		`{"Version":"v1.0.0"}x`, `{"Version":"v1.0.0"}}`, `{"Version":"v1.0.0"}{}`, `{{"Version":"v1.0.0"}}`, `x{"Version":"v1.0.0"}`, "\x00{\"Version\":\"v1.0.0\"}", "{\"Version\":\"v1.0.0\"}\x00", "\xef\xbb\xbf{\"Version\":\"v1.0.0\"}", "{\"Version\":\"v1.0.0\"}\v", "{\f\"Version\":\"v1.0.0\"}", "{\u00a0\"Version\":\"v1.0.0\"}",
		`{"version":"v1.0.0"}`, `{"VERSION":"v1.0.0"}`, `{"Version ":"v1.0.0"}`, `{"Versio":"v1.0.0"}`, `{"Versions":"v1.0.0"}`, `{"Time":"v1.0.0"}`,
		`{"Version":1}`, `{"Version":null}`, `{"Version":true}`, `{"Version":""}`, `{"Version":"1.0.0"}`, `{"Version":"v1.0"}`, `{"Version":"v1.0.0 "}`, `{"Version":" v1.0.0"}`, `{"Version":"v1.0.0\n"}`, `{"Version":"v1.0.0-01"}`, `{"Version":"latest"}`, `{"Version":"v1.0.0-aaaaaaaaaaaaaaaaaaaaaaaa"}`,
		`{"Version":"v1.0.0","Version":"v1.0.0"}`, `{"Version":"v1.0.0","Version":"x"}`, `{"Version":1,"Version":"v1.0.0"}`, `{"Version":"v1.0.0","Time":"a","Time":"a"}`, `{"Version":"v1.0.0","a":1,"a":2}`, `{"Version":"v1.0.0","":1,"":2}`, `{"Version":"v1.0.0","/":1,"\/":2}`, `{"a\/b":1,"Version":"v1.0.0","a/b":1}`,
		`{"Version":"v1.0.0","a":01}`, `{"Version":"v1.0.0","a":00}`, `{"Version":"v1.0.0","a":-01}`, `{"Version":"v1.0.0","a":-}`, `{"Version":"v1.0.0","a":--1}`, `{"Version":"v1.0.0","a":- 1}`, `{"Version":"v1.0.0","a":+1}`, `{"Version":"v1.0.0","a":1234567890}`, `{"Version":"v1.0.0","a":-1234567890}`, `{"Version":"v1.0.0","a":1.0}`, `{"Version":"v1.0.0","a":1e3}`, `{"Version":"v1.0.0","a":.5}`, `{"Version":"v1.0.0","a":1 2}`, `{"Version":"v1.0.0","a":0x1}`, `{"Version":"v1.0.0","a":1a}`,
		`{"Version":"v1.0.0","a":tru}`, `{"Version":"v1.0.0","a":truee}`, `{"Version":"v1.0.0","a":True}`, `{"Version":"v1.0.0","a":TRUE}`, `{"Version":"v1.0.0","a":t rue}`, `{"Version":"v1.0.0","a":fals}`, `{"Version":"v1.0.0","a":nul}`, `{"Version":"v1.0.0","a":nulll}`, `{"Version":"v1.0.0","a":nan}`, `{"Version":"v1.0.0","a":truefalse}`, `{"Version":"v1.0.0","a":true`, `{"Version":"v1.0.0","a":t`,
		`{"Version":"v1.0.0","a":{}}`, `{"Version":"v1.0.0","a":[]}`, `{"Version":"v1.0.0","a":[1]}`, `{"Version":"v1.0.0","a":{"b":1}}`,
		`{"Version":"v1.0.0","a":"`, `{"Version":"v1.0.0","a":"\`, `{"Version":"v1.0.0","a":"\"}`, `{"Version":"v1.0.0","a":"b}`, `{"Version":"v1.0.0","a":"\\\"}`, `{"Version":"v1.0.0","a":"\u0041"}`, `{"Version":"v1.0.0","a":"\r"}`, `{"Version":"v1.0.0","a":"\b"}`, `{"Version":"v1.0.0","a":"\f"}`, `{"Version":"v1.0.0","a":"\0"}`, `{"Version":"v1.0.0","a":"\'"}`, `{"Version":"v1.0.0","a":"\ "}`, `{"Version":"v1.0.0","a":"\N"}`,
		"{\"Version\":\"v1.0.0\",\"a\":\"\n\"}", "{\"Version\":\"v1.0.0\",\"a\":\"\t\"}", "{\"Version\":\"v1.0.0\",\"a\":\"\x7f\"}", "{\"Version\":\"v1.0.0\",\"a\":\"ä\"}", "{\"Version\":\"v1.0.0\",\"ä\":1}", "{\"Version\":\"v1.0.0\",\"a\":\"\x00\"}",
		`{"Version":"v1.0.0"/* */}`, "{\"Version\":\"v1.0.0\"//\n}",
	} {
		checkNoInfo(t, s)
	}
}

// TestInfoEveryByte turns each byte into each other one, and has one more and one fewer.
func TestInfoEveryByte(t *testing.T) {
	for _, s := range []string{
		` {"Version" : "v1.0.0" , "Time":"a\n\\b"} `,
		`{"a":true,"b":-10,"\/":null,"Version":"v1.0.0-a.1","d":false,"e":123456789,"":0}`,
	} {
		checkInfoAsReference(t, s)
		for at := range len(s) {
			checkInfoAsReference(t, s[:at])
			checkInfoAsReference(t, s[at:])
			checkInfoAsReference(t, s[:at]+s[at+1:])
			for c := range 256 {
				b := string([]byte{byte(c)})
				checkInfoAsReference(t, s[:at]+b+s[at+1:])
				checkInfoAsReference(t, s[:at]+b+s[at:])
			}
		}
	}
}

func TestInfoEveryCharacter(t *testing.T) {
	for c := range 256 {
		b := string([]byte{byte(c)})
		for _, s := range []string{`"` + b + `"`, `"\` + b + `"`, `"a` + b + `b"`, `"\\` + b + `"`, `"\` + b + `b"`, b, b + "1", "1" + b, "true" + b} {
			checkInfoAsReference(t, `{"Version":"v1.0.0","Time":`+s+`}`)
			checkInfoAsReference(t, `{`+s+`:1,"Version":"v1.0.0"}`)
		}
		checkInfoAsReference(t, `{"Version":"v1.0.0`+b+`"}`)
		checkInfoAsReference(t, `{"Version":"v1.0.0-`+b+`"}`)
	}
}

// TestInfoAllShortObjects puts its pieces together in every way.
func TestInfoAllShortObjects(t *testing.T) {
	pieces := []string{`"Version"`, `"v1.0.0"`, `"Time"`, `:`, `,`, `{`, `}`, ` `, `-1`, `null`}
	var grow func(s string, left int)
	grow = func(s string, left int) {
		checkInfoAsReference(t, s+"}")
		if left == 0 {
			return
		}
		for _, p := range pieces {
			grow(s+p, left-1)
		}
	}
	grow("{", 5)
	grow(`{"Version":"v1.0.0"`, 4)
	grow(`{"Version":"v1.0.0","Time":`, 4)
	eachText(`01-9 "a\`, 5, func(s string) { checkInfoAsReference(t, `{"Version":"v1.0.0","Time":`+s+`}`) })
}

func TestInfoLongTexts(t *testing.T) {
	const many = 300000
	right := `"Version":"v1.0.0"`
	for _, s := range longTexts() {
		checkNoInfo(t, s)
		checkNoInfo(t, "{"+s)
		checkNoInfo(t, "{"+right+"}"+s)
		checkNoInfo(t, `{"Version":"`+s+`"}`)
	}
	for s, want := range map[string]api.About{
		strings.Repeat(" ", many) + "{" + strings.Repeat("\n", many) + right + strings.Repeat("\t", many) + "}" + strings.Repeat("\r", many): {Version: "v1.0.0"},
		"{" + right + `,"Time":"` + strings.Repeat("a", many) + `"}`:                                                                         {Version: "v1.0.0", Time: strings.Repeat("a", many)},
		"{" + right + `,"Time":"` + strings.Repeat(`\\`, many) + `"}`:                                                                        {Version: "v1.0.0", Time: strings.Repeat(`\`, many)},
		"{" + right + `,"` + strings.Repeat("a", many) + `":1}`:                                                                              {Version: "v1.0.0"},
	} {
		checkInfo(t, s, want)
	}
	var fields strings.Builder
	for i := range many {
		fmt.Fprintf(&fields, `"%d":%d,`, i, i)
	}
	checkInfo(t, "{"+fields.String()+right+"}", api.About{Version: "v1.0.0"})
	checkNoInfo(t, "{"+fields.String()+right+`,"150000":1}`)
	for _, piece := range []string{"{", "}", `"`, ",", ":", `"a":`, `"a":1,`, "1", "-", `\`, `"\`, "true", `{"a":`, "["} {
		checkNoInfo(t, strings.Repeat(piece, many))
		checkNoInfo(t, "{"+right+","+strings.Repeat(piece, many)+"}")
		checkNoInfo(t, "{"+right+`,"b":`+strings.Repeat(piece, many))
	}
}

func TestInfoAnswersNewMemory(t *testing.T) {
	s := `{"Version":"v1.0.0-a-long-version","Time":"a rather long text of a time"}`
	about, _ := satchel.Info(s)
	if about.Version == "" || about.Time == "" || shares(s, about.Version) || shares(s, about.Time) {
		t.Errorf("P2: Info(%q) = %q: shares memory", s, about)
	}
}
