package satchel_test

import (
	"fmt"
	"hash/crc32"
	"regexp"
	"slices"
	"strings"
	"testing"

	"satchel/api"
	"satchel/satchel"
)

func checkUnpack(t *testing.T, what string, archive string, want []api.File) {
	t.Helper()
	if files, e := satchel.Unpack(archive, someName, someVersion); e != api.OK || !slices.Equal(files, want) {
		t.Errorf("P5: Unpack of %s = %.100q, %d, want %.100q", what, files, e, want)
	}
	if sum, e := satchel.Sum(api.Archive, archive, someName, someVersion); e != api.OK || sum != librarySum(want) {
		t.Errorf("P5: Sum of %s = %q, %d, want %q", what, sum, e, librarySum(want))
	}
}

func checkNoArchive(t *testing.T, what string, archive string) {
	t.Helper()
	if files, e := satchel.Unpack(archive, someName, someVersion); files != nil || e != api.ErrBundle {
		t.Errorf("P1, P5: Unpack of %s = %.100q, %d, want ErrBundle", what, files, e)
	}
	if sum, e := satchel.Sum(api.Archive, archive, someName, someVersion); sum != "" || e != api.ErrBundle {
		t.Errorf("P1, P5: Sum of %s = %q, %d, want ErrBundle", what, sum, e)
	}
}

func TestUnpackFiles(t *testing.T) {
	a, b, c := storedFile("b", "two"), storedFile("a/z", ""), storedFile("a", "one\x00\xff")
	checkUnpack(t, "one file", archiveOf(a), plainFiles(a))
	checkUnpack(t, "one empty file", archiveOf(b), plainFiles(b))
	for _, files := range [][]packedFile{{a, b, c}, {a, c, b}, {b, a, c}, {b, c, a}, {c, a, b}, {c, b, a}} {
		checkUnpack(t, "three files", archiveOf(files...), []api.File{
			{Name: somePrefix + "a", Data: "one\x00\xff"}, {Name: somePrefix + "a/z", Data: ""}, {Name: somePrefix + "b", Data: "two"},
		})
	}
	checkUnpack(t, "a stored and a deflated file", archiveOf(a, deflatedFile("B", "packed")), []api.File{
		{Name: somePrefix + "B", Data: "packed"}, {Name: somePrefix + "b", Data: "two"},
	})
	checkUnpack(t, "an empty deflated file", archiveOf(deflatedFile("a", "")), []api.File{{Name: somePrefix + "a"}})
	upper, lower := storedFile("READ", "1"), storedFile("read", "1")
	checkUnpack(t, "names in other letters", archiveOf(lower, upper), plainFiles(upper, lower))
	inner := storedFile("inner.zip", archiveOf(a, b))
	checkUnpack(t, "an archive within", archiveOf(inner, a), plainFiles(inner, a))
}

// TestUnpackEveryByte turns each byte into each other one: it may be any, or it is wrong.
func TestUnpackEveryByte(t *testing.T) {
	files := []packedFile{storedFile("b", "two"), deflatedFile("a", "one one")}
	archive := archiveOf(files...)
	free := anyPlaces(files...)
	want := []api.File{{Name: somePrefix + "a", Data: "one one"}, {Name: somePrefix + "b", Data: "two"}}
	checkUnpack(t, "an archive", archive, want)
	for at := range len(archive) {
		for c := range 256 {
			b := []byte(archive)
			if b[at] == byte(c) {
				continue
			}
			b[at] = byte(c)
			if free[at] {
				checkUnpack(t, fmt.Sprint("an archive with ", c, " at ", at), string(b), want)
			} else {
				checkNoArchive(t, fmt.Sprint("an archive with ", c, " at ", at), string(b))
			}
		}
	}
}

func TestUnpackMoreOrFewerBytes(t *testing.T) {
	archive := archiveOf(storedFile("b", "two"), deflatedFile("a", "one one"))
	for at := range len(archive) {
		checkNoArchive(t, fmt.Sprint("an archive cut at ", at), archive[:at])
		checkNoArchive(t, fmt.Sprint("an archive from ", at+1), archive[at+1:])
		checkNoArchive(t, fmt.Sprint("an archive without byte ", at), archive[:at]+archive[at+1:])
		for _, more := range []string{"\x00", "P", archive[at : at+1]} {
			checkNoArchive(t, fmt.Sprintf("an archive with %q more at %d", more, at), archive[:at]+more+archive[at:])
		}
	}
	for _, more := range []string{"\x00", "P", archive} {
		checkNoArchive(t, "an archive and more behind", archive+more)
	}
}

// TestUnpackPlaces lays parts, entries and the end otherwise, and tells their places rightly.
func TestUnpackPlaces(t *testing.T) {
	a, b := storedFile("a", "one"), storedFile("b", "two")
	pa, pb := a.part(), b.part()
	ea, eb := a.entry(0), b.entry(len(pa))
	size, at := len(ea+eb), len(pa+pb)
	end := endOfArchive(2, size, at)
	checkUnpack(t, "two files", pa+pb+ea+eb+end, plainFiles(a, b))
	for what, archive := range map[string]string{
		"entries in another order":   pa + pb + eb + ea + end,
		"entries that are changed":   pa + pb + a.entry(len(pa)) + b.entry(0) + end,
		"entries with one place":     pa + pb + ea + b.entry(0) + end,
		"an entry twice":             pa + pb + ea + ea + end,
		"a gap between parts":        pa + "x" + pb + ea + b.entry(len(pa)+1) + endOfArchive(2, size, at+1),
		"a gap ahead of parts":       "x" + pa + pb + a.entry(1) + b.entry(len(pa)+1) + endOfArchive(2, size, at+1),
		"a gap ahead of entries":     pa + pb + "x" + ea + eb + endOfArchive(2, size, at+1),
		"a gap between entries":      pa + pb + ea + "x" + eb + endOfArchive(2, size+1, at),
		"a gap ahead of the end":     pa + pb + ea + eb + "x" + endOfArchive(2, size+1, at),
		"a part without an entry":    pa + pb + ea + endOfArchive(1, len(ea), at),
		"an entry without a part":    pa + ea + eb + endOfArchive(2, size, len(pa)),
		"an entry more":              pa + pb + ea + eb + eb + endOfArchive(3, size+len(eb), at),
		"two entries for one part":   pa + ea + ea + endOfArchive(2, 2*len(ea), len(pa)),
		"no entries":                 pa + endOfArchive(0, 0, len(pa)),
		"no parts":                   ea + endOfArchive(1, len(ea), 0),
		"nothing but the end":        endOfArchive(0, 0, 0),
		"no end":                     pa + pb + ea + eb,
		"two ends":                   pa + pb + ea + eb + end + end,
		"a part behind the entries":  pa + ea + pb + eb + endOfArchive(2, len(ea+pb+eb), len(pa)),
		"one file fewer at the end":  pa + pb + ea + eb + endOfArchive(1, size, at),
		"one file more at the end":   pa + pb + ea + eb + endOfArchive(3, size, at),
		"many files more at the end": pa + pb + ea + eb + endOfArchive(2+256, size, at),
		"other entries' bytes":       pa + pb + ea + eb + endOfArchive(2, size-1, at),
		"another place of entries":   pa + pb + ea + eb + endOfArchive(2, size, at-1),
		"nothing":                    "",
	} {
		checkNoArchive(t, what, archive)
	}
}

// TestUnpackLies has parts and entries that tell the same, but not the truth.
func TestUnpackLies(t *testing.T) {
	for _, right := range []packedFile{storedFile("a", "one"), deflatedFile("a", "one"), storedFile("a", ""), deflatedFile("a", "")} {
		for _, by := range []int{1, -1, 2, 256, 0x8000, 1 << 16, 1 << 24, 1 << 31, 0x7fffffff, -2} {
			for what, lie := range map[string]func(f *packedFile){
				"CRC-32":        func(f *packedFile) { f.crc += by },
				"packed bytes":  func(f *packedFile) { f.packedBytes += by },
				"plain bytes":   func(f *packedFile) { f.plainBytes += by },
				"name's length": func(f *packedFile) { f.nameBytes += by % (1 << 16) },
				"method":        func(f *packedFile) { f.method += by % (1 << 16) },
				"both lengths":  func(f *packedFile) { f.packedBytes += by; f.plainBytes += by },
			} {
				if what == "name's length" && by%(1<<16) == 0 || what == "method" && by%(1<<16) == 0 {
					continue
				}
				f := right
				lie(&f)
				checkNoArchive(t, fmt.Sprint("a file with another ", what, ", by ", by), archiveOf(f, storedFile("b", "two")))
				checkNoArchive(t, fmt.Sprint("a file with another ", what, ", by ", by), archiveOf(storedFile("b", "two"), f))
			}
		}
	}
}

func crcOf(s string) int { return int(crc32.ChecksumIEEE([]byte(s))) }

func TestUnpackMethods(t *testing.T) {
	short := storedFile("a", "one")
	short.plainBytes, short.crc = 2, crcOf("on")
	checkNoArchive(t, "a stored file with fewer plain bytes", archiveOf(short))
	long := storedFile("a", "one")
	long.packed += "more"
	long.packedBytes += 4
	checkNoArchive(t, "a stored file with more packed bytes", archiveOf(long))
	for method := range 20 {
		f := storedFile("a", "one")
		f.method = method
		if method != 0 {
			checkNoArchive(t, fmt.Sprint("stored bytes with method ", method), archiveOf(f))
		}
		d := deflatedFile("a", "one")
		d.method = method
		if method != 8 {
			checkNoArchive(t, fmt.Sprint("deflated bytes with method ", method), archiveOf(d))
		}
		d.plainBytes = d.packedBytes
		checkNoArchive(t, fmt.Sprint("deflated bytes told as stored, with method ", method), archiveOf(d))
	}
	whole := deflatedFile("a", "one")
	for what, packed := range map[string]string{
		"no deflated text":                  "",
		"a deflated text and a byte more":   whole.packed + "\x00",
		"a deflated text and a byte fewer":  whole.packed[:len(whole.packed)-1],
		"a deflated text of more":           deflatedFile("a", "one!").packed,
		"a deflated text of less":           deflatedFile("a", "on").packed,
		"a deflated text of something else": deflatedFile("a", "two").packed,
	} {
		f := whole
		f.packed, f.packedBytes = packed, len(packed)
		checkNoArchive(t, what, archiveOf(f))
	}
	for _, level := range []int{0, 1, 6, 9, -2} {
		f := storedFile("a", strings.Repeat("one", 300))
		want := plainFiles(f)
		f.method, f.packed = 8, libraryDeflate(f.packed, level)
		f.packedBytes = len(f.packed)
		checkUnpack(t, fmt.Sprint("a file that the library packed, level ", level), archiveOf(f), want)
	}
}

var pathPattern = regexp.MustCompile(`\A[!-.0-[\]-~]+(/[!-.0-[\]-~]+)*\z`)

func isPath(path string) bool {
	return pathPattern.MatchString(path) && !slices.ContainsFunc(strings.Split(path, "/"), func(e string) bool { return e == "." || e == ".." })
}

func checkPath(t *testing.T, path string) {
	t.Helper()
	f := storedFile(path, "x")
	if isPath(path) {
		checkUnpack(t, fmt.Sprintf("the path %q", path), archiveOf(f), plainFiles(f))
	} else {
		checkNoArchive(t, fmt.Sprintf("the path %q", path), archiveOf(f))
	}
}

func TestUnpackPaths(t *testing.T) {
	eachText("a./\\!", 5, func(path string) { checkPath(t, path) })
	for c := range 256 {
		b := string([]byte{byte(c)})
		for _, path := range []string{b, "a" + b, b + "a", "a" + b + "a", "a/" + b, b + "/a", "." + b, ".." + b, "a/." + b + "/a"} {
			checkPath(t, path)
		}
	}
	for _, path := range []string{"...", ".a", "a.", "..a", "a/...", "@", "a@v1.0.0/b", "!a", "ä", "a\u2044b", "con", "~", "*", "a:b"} {
		checkPath(t, path)
	}
}

func TestUnpackNames(t *testing.T) {
	for _, name := range []string{
		"", "/", "a", "x/Y", "x/Y@v1.0.0", "x/Y@v1.0.0/", "x/Y@v1.0.0x/a", "x/Y@v1.0.0-a/a", "x/Y@v1.0/a", "x/Y@v1.0.1/a", "x/Y@/a", "x/Y/a", "x/Yv1.0.0/a",
		"x@v1.0.0/a", "Y@v1.0.0/a", "x/y@v1.0.0/a", "X/Y@v1.0.0/a", "x/!y@v1.0.0/a", "x/YY@v1.0.0/a", "/x/Y@v1.0.0/a", "x/Y@V1.0.0/a", " x/Y@v1.0.0/a", "x/Y@v1.0.0//a", "x\\Y@v1.0.0/a",
	} {
		f := storedFile("a", "x")
		f.name, f.nameBytes = name, len(name)
		checkNoArchive(t, fmt.Sprintf("the name %q", name), archiveOf(f))
		checkNoArchive(t, fmt.Sprintf("the name %q", name), archiveOf(storedFile("b", "y"), f))
	}
	for length := 80; length < 100; length++ {
		path := strings.Repeat("q", length)
		f := storedFile(path, "x")
		if len(somePrefix)+length <= 100 {
			checkUnpack(t, "a long name", archiveOf(f), plainFiles(f))
		} else {
			checkNoArchive(t, "too long a name", archiveOf(f))
		}
	}
	checkNoArchive(t, "the longest name that can be told", archiveOf(storedFile(strings.Repeat("q", 65535-len(somePrefix)), "x")))
}

func TestUnpackLongNameAndVersion(t *testing.T) {
	name, version := strings.Repeat("n", 60), "v1.0.0-"+strings.Repeat("a", 23)
	for path, want := range map[string]api.Errno{"12345678": api.OK, "123456789": api.ErrBundle, "1": api.OK, "": api.ErrBundle} {
		f := storedFile("", "x")
		f.name = name + "@" + version + "/" + path
		f.nameBytes = len(f.name)
		if _, e := satchel.Unpack(archiveOf(f), name, version); e != want {
			t.Errorf("P5: Unpack of the path %q behind the longest name and version: %d, want %d", path, e, want)
		}
	}
}

func TestUnpackOneNameTwice(t *testing.T) {
	a, b, c := storedFile("a", "1"), storedFile("b", "2"), storedFile("c", "3")
	other := deflatedFile("a", "other")
	for _, files := range [][]packedFile{{a, a}, {a, other}, {a, b, a}, {a, b, c, other}, {b, a, a}, {b, c, other, a}} {
		checkNoArchive(t, "one name twice", archiveOf(files...))
	}
}

func TestUnpackHowMany(t *testing.T) {
	var files []packedFile
	for i := range 40 {
		checkHowMany := checkNoArchive
		if i >= 1 && i <= 16 {
			checkHowMany = func(t *testing.T, what string, archive string) { checkUnpack(t, what, archive, plainFiles(files...)) }
		}
		checkHowMany(t, fmt.Sprint(i, " files"), archiveOf(files...))
		files = append(files, storedFile(fmt.Sprint(i), strings.Repeat("x", i)))
	}
}

func TestUnpackHowManyBytes(t *testing.T) {
	for _, c := range []struct {
		lengths []int
		ok      bool
	}{
		{[]int{8000}, true}, {[]int{8001}, false}, {[]int{5000, 3000}, true}, {[]int{5000, 3001}, false}, {[]int{3001, 5000}, false},
		{[]int{8000, 0}, true}, {[]int{0, 8000, 0}, true}, {[]int{8000, 1}, false}, {[]int{1, 8000}, false}, {[]int{4000, 4000}, true},
		{[]int{8000, 8000}, false}, {[]int{2667, 2667, 2666}, true}, {[]int{2667, 2667, 2667}, false}, {[]int{70000}, false},
	} {
		for _, make := range []func(string, string) packedFile{storedFile, libraryFile} {
			var files []packedFile
			var want []api.File
			for i, length := range c.lengths {
				data := strings.Repeat("ab", length)[:length]
				files = append(files, make(fmt.Sprint(i), data))
				want = append(want, api.File{Name: somePrefix + fmt.Sprint(i), Data: data})
			}
			if c.ok {
				checkUnpack(t, fmt.Sprint("files of ", c.lengths), archiveOf(files...), want)
			} else {
				checkNoArchive(t, fmt.Sprint("files of ", c.lengths), archiveOf(files...))
			}
		}
	}
}

// libraryFile is packed small.
func libraryFile(path string, data string) packedFile {
	f := storedFile(path, data)
	f.method, f.packed = 8, libraryDeflate(data, 9)
	f.packedBytes = len(f.packed)
	return f
}

func TestUnpackAndSumArguments(t *testing.T) {
	archive := archiveOf(storedFile("a", "one"))
	for _, c := range []struct {
		archive, name, version string
		want                   api.Errno
	}{
		{archive, "x/Y", "v1.0.0", api.OK},
		{archive, "", "v1.0.0", api.ErrName},
		{archive, "x/", "v1.0.0", api.ErrName},
		{archive, "", "", api.ErrName},
		{"", "!", "1.0.0", api.ErrName},
		{archive, "x/Y", "", api.ErrVersion},
		{archive, "x/Y", "v1.0", api.ErrVersion},
		{"", "x/Y", "v1.0.0/", api.ErrVersion},
		{"", "x/Y", "v1.0.0", api.ErrBundle},
		{archive, "x", "v1.0.0", api.ErrBundle},
		{archive, "x/y", "v1.0.0", api.ErrBundle},
		{archive, "x/Y", "v1.0.1", api.ErrBundle},
		{archive, "x/Y", "v1.0.0-a", api.ErrBundle},
		{archive, strings.Repeat("n", 61), "v1.0.0", api.ErrName},
		{archive, "x/Y", "v1.0.0-" + strings.Repeat("a", 24), api.ErrVersion},
	} {
		files, e := satchel.Unpack(c.archive, c.name, c.version)
		if e != c.want || (files != nil) != (e == api.OK) {
			t.Errorf("P1, P5: Unpack(.., %q, %q) = %q, %d, want %d", c.name, c.version, files, e, c.want)
		}
		sum, e := satchel.Sum(api.Archive, c.archive, c.name, c.version)
		if e != c.want || (sum != "") != (e == api.OK) {
			t.Errorf("P1, P5: Sum(2, .., %q, %q) = %q, %d, want %d", c.name, c.version, sum, e, c.want)
		}
		want := c.want
		if want == api.ErrBundle {
			want = api.OK // a head may be anything
		}
		sum, e = satchel.Sum(api.Head, c.archive, c.name, c.version)
		if e != want || (sum != "") != (e == api.OK) {
			t.Errorf("P1, P5: Sum(1, .., %q, %q) = %q, %d, want %d", c.name, c.version, sum, e, want)
		}
		for _, kind := range []int{0, 3, -1, -2, 4, 257, 1 << 32, 1<<32 + 1, 1<<32 + 2, 1<<63 - 1, -1 << 63} {
			if sum, e := satchel.Sum(kind, c.archive, c.name, c.version); sum != "" || e != api.ErrArg {
				t.Errorf("P1, P5: Sum(%d, .., %q, %q) = %q, %d, want ErrArg", kind, c.name, c.version, sum, e)
			}
		}
	}
}

func TestSumOfHeads(t *testing.T) {
	for _, body := range append([]string{"", "abc", "\n", "\x00", noise(400), noise(4000), archiveOf(storedFile("a", "one"))}, longTexts()...) {
		want := libraryDigest(libraryDigest(body) + "  head\n")
		for _, key := range [][2]string{{"x", "v1.0.0"}, {"x/Y", "v2.0.0-a"}} {
			if sum, e := satchel.Sum(api.Head, body, key[0], key[1]); sum != want || e != api.OK {
				t.Errorf("P5: Sum(1, %.40q, %q, %q) = %q, %d, want %q", body, key[0], key[1], sum, e, want)
			}
		}
	}
}

func TestSumOfFullArchives(t *testing.T) {
	var files []packedFile
	for i := range 16 {
		files = append(files, storedFile(fmt.Sprint("f", 99-i), noise(500)))
	}
	archive := archiveOf(files...)
	for range 300 {
		checkUnpack(t, "16 files", archive, plainFiles(files...))
	}
}

func TestUnpackLongTexts(t *testing.T) {
	right := archiveOf(storedFile("a", "one"))
	for _, s := range longTexts() {
		checkNoArchive(t, "a long text", s)
		checkNoArchive(t, "a long text behind", right+s)
		if files, e := satchel.Unpack(right, s, someVersion); files != nil || e != api.ErrName {
			t.Errorf("P1, P5: Unpack with the name %.40q: %d", s, e)
		}
		if files, e := satchel.Unpack(right, someName, s); files != nil || e != api.ErrVersion {
			t.Errorf("P1, P5: Unpack with the version %.40q: %d", s, e)
		}
	}
	checkNoArchive(t, "very many parts", strings.Repeat(storedFile("a", "one").part(), 100000))
	long := storedFile("a", "")
	want := plainFiles(long)
	long.method, long.packed = 8, strings.Repeat(storedBlock(0, ""), 300000)+storedBlock(1, "")
	long.packedBytes = len(long.packed)
	checkUnpack(t, "a very long text that gives nothing", archiveOf(long), want)
}

func TestUnpackAnswersNewMemory(t *testing.T) {
	archive := archiveOf(storedFile("a", "one"), deflatedFile("b", "two"), storedFile("c", noise(500)))
	files, _ := satchel.Unpack(archive, someName, someVersion)
	again, _ := satchel.Unpack(archive, someName, someVersion)
	for i, f := range files {
		for _, s := range []string{f.Name, f.Data} {
			if shares(archive, s) || shares(again[i].Name, s) || shares(again[i].Data, s) {
				t.Errorf("P2: %.40q shares memory", s)
			}
		}
	}
	clear(files[:cap(files)])
	if third, _ := satchel.Unpack(archive, someName, someVersion); !slices.Equal(third, again) {
		t.Error("P2: what was done to an answer is to be seen in another")
	}
}
