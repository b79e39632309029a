package satchel_test

import (
	"fmt"
	"regexp"
	"slices"
	"strings"
	"testing"

	"satchel/api"
	"satchel/satchel"
)

var (
	listPattern = regexp.MustCompile(`\A[a-z0-9.]{1,12}([,|][a-z0-9.]{1,12}){0,5}\z`)
	sumPattern  = regexp.MustCompile(`\A[0-9a-f]{64}\z`)
	someSum     = strings.Repeat("0a", 32)
	someLine    = "x v1.0.0 " + someSum + "\n"
	someHead    = "x v1.0.0/head " + someSum + "\n"
)

func checkNew(t *testing.T, what string, c api.Config, want api.Errno) {
	t.Helper()
	x, steps, e := satchel.New(c, nil)
	if e != want || (x != nil) != (want == api.OK) || len(steps) != 0 {
		t.Errorf("P8: %.80s: New(%.80q, %.200q, %d, %d, %d, %d, %d) = %v, %v, %d, want %d",
			what, c.Mirrors, c.Sums, c.Tries, c.Base, c.Cap, c.Deadline, c.Limit, x != nil, steps, e, want)
	}
}

func checkMirrors(t *testing.T, list string) {
	t.Helper()
	want := api.ErrMirrors
	if listPattern.MatchString(list) {
		want = api.OK
	}
	checkNew(t, "mirrors", api.Config{Mirrors: list, Tries: 1}, want)
}

func TestListsOfMirrors(t *testing.T) {
	for _, list := range []string{"a", "off", "direct", "a,b", "a|b", "off,a|direct", ".", "0.9z", "abcdefghij.1", "a,a,a,a,a,a", "a|b|c|d|e|f", strings.Repeat("abcdefghij.1|", 5) + "abcdefghij.1"} {
		checkNew(t, "mirrors", api.Config{Mirrors: list, Tries: 1}, api.OK)
	}
	for _, list := range []string{"", ",", "|", "a,", "a|", ",a", "|a", "a,,b", "a,|b", "a||b", "A", "a b", " a", "a ", "a\n", "a-b", "a/b", "ä", "a,B", "abcdefghij.12", "a,abcdefghij.12", "a,b,c,d,e,f,g", "a|b|c|d|e|f|", "a,b,c,d,e,f,"} {
		checkNew(t, "mirrors", api.Config{Mirrors: list, Tries: 1}, api.ErrMirrors)
	}
	eachText("a.,|B", 5, func(list string) { checkMirrors(t, list) })
	for c := range 256 {
		b := string([]byte{byte(c)})
		for _, list := range []string{b, "a" + b, b + "a", "a" + b + "b", "a," + b, "a|b" + b + "c"} {
			checkMirrors(t, list)
		}
	}
	for _, list := range longTexts() {
		checkMirrors(t, list)
		checkMirrors(t, "a,"+list)
	}
	checkMirrors(t, strings.Repeat("a,", 1000000)+"a")
}

// wantedOfLine is what a table of this one line is; the line has its newline.
func wantedOfLine(line string) api.Errno {
	text, ended := strings.CutSuffix(line, "\n")
	parts := strings.Split(text, " ")
	if !ended || len(parts) != 3 {
		return api.ErrSums
	}
	version := strings.TrimSuffix(parts[1], "/head")
	if wantedOfName(parts[0]) == api.OK && wantedOfVersion(version) == api.OK && sumPattern.MatchString(parts[2]) {
		return api.OK
	}
	return api.ErrSums
}

func checkTable(t *testing.T, table string, want api.Errno) {
	t.Helper()
	checkNew(t, "sums", api.Config{Mirrors: "a", Sums: table, Tries: 1}, want)
}

func TestTablesOfSums(t *testing.T) {
	longest := strings.Repeat("n", 60) + " v1.0.0-" + strings.Repeat("m", 23)
	for _, table := range []string{
		"", someLine, someHead, someLine + someHead, someHead + someLine,
		someLine + "y" + someLine[1:], someLine + strings.Replace(someLine, "v1.0.0", "v1.0.1", 1), someLine + "X" + someLine[1:],
		longest + " " + someSum + "\n" + longest + "/head " + someSum + "\n",
		"x v1.0.0 " + strings.Repeat("0", 64) + "\n", "x v1.0.0 " + strings.Repeat("f", 64) + "\n",
	} {
		checkTable(t, table, api.OK)
	}
	for _, table := range []string{
		"\n", someLine + "\n", "\n" + someLine, someLine[:len(someLine)-1], someLine + someHead[:len(someHead)-1], someLine + "x", "x",
		someLine + someLine, someHead + someHead, someLine + someHead + someLine, someLine + "x v1.0.0 " + strings.Repeat("1", 64) + "\n",
		strings.Replace(someLine, "\n", "\r\n", 1), " " + someLine, strings.Replace(someLine, " ", "  ", 1), strings.Replace(someLine, " v", "\tv", 1),
		"x v1.0.0  " + someSum + "\n", "x v1.0.0 " + someSum + " \n", "x v1.0.0 " + someSum + "0\n", "x v1.0.0 " + someSum[1:] + "\n", "x v1.0.0 " + someSum[1:] + "A\n", "x v1.0.0 " + someSum[1:] + "g\n", "x v1.0.0 \n", "x v1.0.0\n", "x v1.0.0 x " + someSum + "\n",
		"/" + someLine, "x!" + someLine[1:], someLine[1:], "x  " + someSum + "\n", "x 1.0.0 " + someSum + "\n", "x v1.0 " + someSum + "\n",
		"x v1.0.0/head/head " + someSum + "\n", "x v1.0.0/hea " + someSum + "\n", "x v1.0.0/Head " + someSum + "\n", "x v1.0.0head " + someSum + "\n", "x v1.0.0/ " + someSum + "\n", "x /head " + someSum + "\n", "x/head v1.0.0/ " + someSum + "\n", "x v1.0.0 /head " + someSum + "\n",
		strings.Replace(longest, "n", "nn", 1) + " " + someSum + "\n", longest + "m " + someSum + "\n", longest + "m/head " + someSum + "\n",
	} {
		checkTable(t, table, api.ErrSums)
	}
	for c := range 256 {
		b := string([]byte{byte(c)})
		for at := range len(someHead) {
			line := someHead[:at] + b + someHead[at+1:]
			checkTable(t, line, wantedOfLine(line))
			line = someHead[:at] + b + someHead[at:]
			checkTable(t, line, wantedOfLine(line))
		}
	}
}

func manyLines(many int, kind string) string {
	table := ""
	for i := range many {
		table += fmt.Sprintf("x v1.0.%d%s %s\n", i, kind, someSum)
	}
	return table
}

func TestHowManySums(t *testing.T) {
	checkTable(t, manyLines(40, ""), api.OK)
	checkTable(t, manyLines(41, ""), api.ErrSums)
	checkTable(t, manyLines(20, "")+manyLines(20, "/head"), api.OK)
	checkTable(t, manyLines(20, "")+manyLines(21, "/head"), api.ErrSums)
	checkTable(t, manyLines(40, "")+"\n", api.ErrSums)
	checkTable(t, manyLines(1000, ""), api.ErrSums)
	for _, text := range longTexts() {
		for _, table := range []string{text, text + "\n", someLine + text + "\n", "x " + text + " " + someSum + "\n", "x v1.0.0 " + text + "\n", text + " v1.0.0 " + someSum + "\n"} {
			checkTable(t, table, api.ErrSums)
		}
	}
	checkTable(t, strings.Repeat("\n", 1000000), api.ErrSums)
	checkTable(t, strings.Repeat(" ", 1000000)+"\n", api.ErrSums)
	checkTable(t, strings.Repeat(someLine, 10000), api.ErrSums)
}

func TestNumbersOfConfigs(t *testing.T) {
	right := api.Config{Mirrors: "a", Sums: someLine, Tries: 3, Base: 1, Cap: 1, Deadline: 1, Limit: 1}
	for _, c := range []struct {
		what        string
		number      func(*api.Config) *int
		least, most int
	}{
		{"Tries", func(c *api.Config) *int { return &c.Tries }, 1, 5},
		{"Base", func(c *api.Config) *int { return &c.Base }, 0, 100000},
		{"Cap", func(c *api.Config) *int { return &c.Cap }, 0, 100000},
		{"Deadline", func(c *api.Config) *int { return &c.Deadline }, 0, 100000},
		{"Limit", func(c *api.Config) *int { return &c.Limit }, 0, 4000},
	} {
		for _, n := range []int{c.least, c.least + 1, c.most - 1, c.most} {
			config := right
			*c.number(&config) = n
			checkNew(t, c.what, config, api.OK)
		}
		for _, n := range []int{c.least - 1, c.most + 1, -1, 1<<63 - 1, -1 << 63, 1<<32 + c.least, 1 << 32, 1<<32 + c.most} {
			config := right
			*c.number(&config) = n
			checkNew(t, c.what, config, api.ErrArg)
		}
	}
	checkNew(t, "all the least", api.Config{Mirrors: "a", Tries: 1}, api.OK)
	checkNew(t, "all the greatest", api.Config{Mirrors: "a", Tries: 5, Base: 100000, Cap: 100000, Deadline: 100000, Limit: 4000}, api.OK)
}

func TestWhatNewNamesFirst(t *testing.T) {
	twice := []api.File{{Name: "a"}, {Name: "a"}}
	for _, c := range []struct {
		config api.Config
		files  []api.File
		want   api.Errno
	}{
		{api.Config{}, twice, api.ErrMirrors},
		{api.Config{Mirrors: "A", Sums: "x", Tries: 9}, nil, api.ErrMirrors},
		{api.Config{Mirrors: "a", Sums: "x", Tries: 9}, twice, api.ErrSums},
		{api.Config{Mirrors: "a", Sums: "x", Tries: 1}, nil, api.ErrSums},
		{api.Config{Mirrors: "a", Tries: 9}, twice, api.ErrArg},
		{api.Config{Mirrors: "a", Tries: 1}, twice, api.ErrArg},
		{api.Config{Mirrors: "a", Tries: 1}, []api.File{{Name: "c/x"}, {Name: "t/x"}, {Name: "p/x"}, {Name: "c/x", Data: "1"}}, api.ErrArg},
		{api.Config{Mirrors: "a", Tries: 1}, []api.File{{Name: "t/"}, {Name: "t/"}}, api.ErrArg},
		{api.Config{Mirrors: "a", Tries: 1}, []api.File{{Name: ""}, {Name: ""}}, api.ErrArg},
		{api.Config{Mirrors: "a", Tries: 1}, []api.File{{Name: "a"}, {Name: "b"}, {Name: "A"}, {Name: ""}, {Name: "a "}}, api.OK},
	} {
		x, steps, e := satchel.New(c.config, c.files)
		if e != c.want || (x != nil) != (c.want == api.OK) || len(steps) != 0 {
			t.Errorf("P1, P8: New(%+v, %q) = %v, %v, %d, want %d", c.config, c.files, x != nil, steps, e, c.want)
		}
	}
}

func TestRecovery(t *testing.T) {
	config := api.Config{Mirrors: "a", Tries: 1}
	names := []string{"t/b", "t/", "c/t/a", "t", "T/a", "t/a/b", "t/a", "t/\xff", "t/\x00", "p/t/", "", "t/B", "x", "t/t/", "tt/a", "t\\a", " t/a", "c/x@v1.0.0.head"}
	want := []string{"t/", "t/\x00", "t/B", "t/a", "t/a/b", "t/b", "t/t/", "t/\xff"}
	for turn := range names {
		var files []api.File
		for i := range names {
			files = append(files, api.File{Name: names[(turn+i)%len(names)], Data: "x"})
		}
		given := slices.Clone(files)
		_, steps, e := satchel.New(config, files)
		var wanted []api.Step
		for _, name := range want {
			wanted = append(wanted, api.Step{What: api.Remove, Name: name})
		}
		if e != api.OK || !slices.Equal(steps, wanted) {
			t.Errorf("P8: recovery of %q: %s, %d, want %s", files, show(steps), e, show(wanted))
		}
		if !slices.Equal(files, given) {
			t.Errorf("P2: New changed its files")
		}
	}
}

func TestNewOfManyFiles(t *testing.T) {
	const many = 200000
	var files []api.File
	for i := range many {
		files = append(files, api.File{Name: fmt.Sprintf("t/%06d", (i*7919)%many)})
	}
	_, steps, e := satchel.New(api.Config{Mirrors: "a", Tries: 1}, files)
	if e != api.OK || len(steps) != many || steps[0].Name != "t/000000" || !slices.IsSortedFunc(steps, func(a api.Step, b api.Step) int { return strings.Compare(a.Name, b.Name) }) {
		t.Errorf("P1, P8: New of many files: %d steps, %d", len(steps), e)
	}
	if x, steps, e := satchel.New(api.Config{Mirrors: "a", Tries: 1}, append(files, files[77])); x != nil || steps != nil || e != api.ErrArg {
		t.Errorf("P1, P8: New of many files, one of them twice: %v, %d steps, %d", x != nil, len(steps), e)
	}
}
