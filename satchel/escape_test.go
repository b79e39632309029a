package satchel_test

import (
	"strings"
	"testing"

	"satchel/api"
	"satchel/satchel"
)

func checkEscape(t *testing.T, s string, want string, wantErr api.Errno) {
	t.Helper()
	if got, e := satchel.Escape(s); got != want || e != wantErr {
		t.Errorf("P3: Escape(%.60q) = %.60q, %d, want %.60q, %d", s, got, e, want, wantErr)
	}
}

func checkUnescape(t *testing.T, s string, want string, wantErr api.Errno) {
	t.Helper()
	if got, e := satchel.Unescape(s); got != want || e != wantErr {
		t.Errorf("P3: Unescape(%.60q) = %.60q, %d, want %.60q, %d", s, got, e, want, wantErr)
	}
}

func TestEscapeAndBack(t *testing.T) {
	for _, c := range []struct{ plain, escaped string }{
		{"", ""},
		{"a", "a"},
		{"A", "!a"},
		{"Z", "!z"},
		{"aB/C", "a!b/!c"},
		{"ABC", "!a!b!c"},
		{"example.org/Big_Thing", "example.org/!big_!thing"},
		{"v1.0.0-RC.1", "v1.0.0-!r!c.1"},
		{"@[`{ \x00\xff\n", "@[`{ \x00\xff\n"},
		{"Äé", "Äé"},
	} {
		checkEscape(t, c.plain, c.escaped, api.OK)
		checkUnescape(t, c.escaped, c.plain, api.OK)
	}
}

func TestEscapeEveryByte(t *testing.T) {
	for c := range 256 {
		b := string([]byte{byte(c)})
		switch {
		case b == "!":
			checkEscape(t, b, "", api.ErrName)
			checkEscape(t, "aB"+b+"c", "", api.ErrName)
			checkUnescape(t, b, "", api.ErrName)
		case "A" <= b && b <= "Z":
			checkEscape(t, b, "!"+strings.ToLower(b), api.OK)
			checkUnescape(t, b, "", api.ErrName)
			checkUnescape(t, "a"+b, "", api.ErrName)
		default:
			checkEscape(t, b, b, api.OK)
			checkUnescape(t, b, b, api.OK)
		}
		if "a" <= b && b <= "z" {
			checkUnescape(t, "x!"+b+"y", "x"+strings.ToUpper(b)+"y", api.OK)
		} else {
			checkUnescape(t, "x!"+b+"y", "", api.ErrName)
			checkUnescape(t, "!"+b, "", api.ErrName)
		}
	}
}

func TestUnescapeTakesJustWhatEscapeAnswers(t *testing.T) {
	const alphabet, most = "azAZ!1", 6
	answered := map[string]string{}
	eachText(alphabet, most, func(s string) {
		if escaped, e := satchel.Escape(s); e == api.OK {
			answered[escaped] = s
		}
	})
	eachText(alphabet, most, func(s string) {
		if plain, ok := answered[s]; ok {
			checkUnescape(t, s, plain, api.OK)
		} else {
			checkUnescape(t, s, "", api.ErrName)
		}
	})
}

func TestEscapeLongTexts(t *testing.T) {
	for _, s := range longTexts() {
		if strings.Contains(s, "!") {
			checkEscape(t, s, "", api.ErrName)
		} else if escaped, e := satchel.Escape(s); e != api.OK {
			t.Errorf("P1, P3: Escape(%.40q..) = %.40q, %d", s, escaped, e)
		} else {
			checkUnescape(t, escaped, s, api.OK)
		}
		if plain, e := satchel.Unescape(s); e == api.OK {
			checkEscape(t, plain, s, api.OK)
		} else if plain != "" || e != api.ErrName {
			t.Errorf("P1, P3: Unescape(%.40q..) = %.40q, %d", s, plain, e)
		}
	}
}

func TestAnswersAreNewMemory(t *testing.T) {
	s := strings.Repeat("nothing/to-escape", 3)
	escaped, _ := satchel.Escape(s)
	plain, _ := satchel.Unescape(s)
	if shares(s, escaped) || shares(s, plain) {
		t.Error("P2: an answer shares memory with what was handed in")
	}
}
