package disk_test

import (
	"bytes"
	"fmt"
	"maps"
	"math"
	"reflect"
	"slices"
	"strings"
	"testing"

	"catchword/api"
	"catchword/disk"
)

// file is a file of that name and of those bytes.
func file(name, data string, sure bool) api.File {
	return api.File{Name: name, Data: []byte(data), Sure: sure}
}

// of is a disk of that room and of those files.
func of(room int, files ...api.File) api.Disk {
	return api.Disk{Cap: room, Files: files}
}

func write(name, data string) api.Op {
	return api.Op{Kind: api.OpWrite, A: name, Data: []byte(data)}
}

func sync(name string) api.Op {
	return api.Op{Kind: api.OpSync, A: name}
}

func rename(from, to string) api.Op {
	return api.Op{Kind: api.OpRename, A: from, B: to}
}

func drop(name string) api.Op {
	return api.Op{Kind: api.OpDelete, A: name}
}

// many are n empty files, their names in order, all of them sure.
func many(n int) []api.File {
	var files []api.File
	for i := range n {
		files = append(files, file(string([]byte{'a' + byte(i/26), 'a' + byte(i%26)}), "", true))
	}
	return files
}

// copyOf is d in memory of its own.
func copyOf(d api.Disk) api.Disk {
	files := slices.Clone(d.Files)
	for i := range files {
		files[i].Data = bytes.Clone(files[i].Data)
	}
	return api.Disk{Cap: d.Cap, Files: files}
}

// like tells whether two disks are the same, by the test's own eyes.
func like(a, b api.Disk) bool {
	if a.Cap != b.Cap || len(a.Files) != len(b.Files) {
		return false
	}
	for i, f := range a.Files {
		g := b.Files[i]
		if f.Name != g.Name || string(f.Data) != string(g.Data) || f.Sure != g.Sure {
			return false
		}
	}
	return true
}

// tell is as much of what is told as a reader of the log can bear.
func tell(what any) string {
	s := fmt.Sprintf("%q", what)
	return s[:min(len(s), 300)]
}

func wantDo(t *testing.T, d api.Disk, o api.Op, want api.Disk, e api.Errno) {
	t.Helper()
	got, gotE := disk.Do(d, o)
	if !like(got, want) || gotE != e {
		t.Errorf("Do(%s, %s): %s, %d; want %s, %d", tell(d), tell(o), tell(got), gotE, tell(want), e)
	}
}

func wantCrash(t *testing.T, d api.Disk, picks []int, want api.Disk) {
	t.Helper()
	if got := disk.Crash(d, picks); !like(got, want) {
		t.Errorf("Crash(%s, %v): %s; want %s", tell(d), picks, tell(got), tell(want))
	}
}

var (
	longest = strings.Repeat("a", 24)
	tooLong = strings.Repeat("a", 25)
)

// noNames are texts that no file may have as its name.
var noNames = []string{"", tooLong, strings.Repeat("z", 1000), "A", "Z", "aB", "a b", " a", "a ", "a-b", "a_b", "a/b", "a,b", "`", "{", "/", ":", "-", "a\x00", "\x00", "ä", "é1", "a\xff", "\xff", "\x80", "a\n"}

// names are texts that a file may have as its name.
var names = []string{"a", "z", "0", "9", ".", "..", "a.z", "man", "s1", "l1.0", "0a", ".a.", longest, strings.Repeat(".", 24), "abcdefghijklmnopqrstuvwx", "yz0123456789."}

// may are disks that may be.
func may() []api.Disk {
	out := []api.Disk{
		of(0),
		of(api.MaxCap),
		{Cap: 3, Files: []api.File{}},
		of(0, file("a", "", false)),
		of(3, file("a", "xyz", false)),
		of(3, file("a", "x", true), file("b", "yz", false)),
		of(5, file("a", "x", true), file("aa", "", true), file("b", "yz", false)),
		of(9, file(".", "1", true), file("0", "2", true), file("9", "3", false), file("a", "4", false)),
		of(api.MaxCap, file("a", strings.Repeat("x", api.MaxCap), true)),
		of(api.MaxCap, file("a", strings.Repeat("x", api.MaxCap-1), true), file("b", "y", false)),
		of(0, many(64)...),
	}
	for _, n := range names {
		out = append(out, of(1, file(n, "x", false)))
	}
	return out
}

// mayNot are disks that may not be.
func mayNot() []api.Disk {
	out := []api.Disk{
		of(-1),
		of(math.MinInt),
		of(api.MaxCap + 1),
		of(math.MaxInt),
		of(-1, file("a", "", true)),
		of(0, file("a", "x", true)),
		of(2, file("a", "xyz", true)),
		of(2, file("a", "x", true), file("b", "yz", false)),
		of(2, file("a", "xy", true), file("b", "", true), file("c", "z", false)),
		of(9, file("b", "x", true), file("a", "y", true)),
		of(9, file("a", "x", true), file("a", "y", true)),
		of(9, file("a", "", true), file("b", "", true), file("b", "", true)),
		of(9, file("aa", "", true), file("a", "", true)),
		of(9, file("a", "", true), file("0", "", true)),
		of(9, file("0", "", true), file(".", "", true)),
		of(9, file("a", "", true), file("c", "", true), file("b", "", true)),
		of(api.MaxCap, file("a", strings.Repeat("x", api.MaxCap+1), true)),
		of(api.MaxCap, file("a", strings.Repeat("x", api.MaxCap), true), file("b", "y", true)),
		of(9, many(65)...),
		of(9, make([]api.File, 65)...),
		of(9, many(500)...),
	}
	for _, n := range noNames {
		out = append(out, of(9, file(n, "x", true)))
	}
	return append(out, of(9, file("", "", false), file("a", "", true)), of(9, file("a", "", true), file("b", "", true), file("c!", "", true)))
}

// P3.1: a new disk has the room that is asked for, and no files; with too little or too much room there is none.
func TestNew(t *testing.T) {
	for _, room := range []int{0, 1, 5, 1000, api.MaxCap - 1, api.MaxCap} {
		if d, is := disk.New(room); !is || !like(d, of(room)) {
			t.Errorf("New(%d): %v, %v", room, d, is)
		}
	}
	for _, room := range []int{-1, -2, math.MinInt, api.MaxCap + 1, 1 << 32, math.MaxInt} {
		if d, is := disk.New(room); is || !like(d, of(0)) {
			t.Errorf("New(%d): %v, %v; want a zero one and false", room, d, is)
		}
	}
}

// P3.1: which disks may be: by their room, by how many files they have, by their names and the names' order, and by their bytes.
func TestMay(t *testing.T) {
	for _, d := range may() {
		if !disk.May(d) {
			t.Errorf("%s may be", tell(d))
		}
	}
	for _, d := range mayNot() {
		if disk.May(d) {
			t.Errorf("%s may not be", tell(d))
		}
	}
	if !disk.May(api.Disk{}) {
		t.Error("the zero disk may be")
	}
}

// P3.1: of all bytes just the letters a to z, the digits and the point stand in names, at every place.
func TestNameBytes(t *testing.T) {
	for c := range 256 {
		want := strings.IndexByte("abcdefghijklmnopqrstuvwxyz0123456789.", byte(c)) >= 0
		for _, name := range []string{string([]byte{byte(c)}), string([]byte{byte(c), 'a'}), string([]byte{'a', byte(c)}), string([]byte{'a', byte(c), 'a'})} {
			if got := disk.May(of(0, file(name, "", false))); got != want {
				t.Errorf("May of a file %q: %v", name, got)
			}
			if _, e := disk.Do(of(0), write(name, "")); (e == api.OK) != want {
				t.Errorf("a file %q is written: %d", name, e)
			}
		}
	}
}

// P3.1: how many bytes there are; none, where the disk may not be.
func TestUsed(t *testing.T) {
	for i, c := range []struct {
		d api.Disk
		n int
	}{
		{of(0), 0},
		{of(9), 0},
		{of(9, file("a", "", true)), 0},
		{of(9, file("a", "xyz", true)), 3},
		{of(9, file("a", "xyz", true), file("b", "12", false), file("c", "", false)), 5},
		{of(5, file("a", "xyz", false), file("b", "12", true)), 5},
		{of(api.MaxCap, file("a", strings.Repeat("x", api.MaxCap), true)), api.MaxCap},
	} {
		if n := disk.Used(c.d); n != c.n {
			t.Errorf("%d: %d; want %d", i, n, c.n)
		}
	}
	for _, d := range mayNot() {
		if n := disk.Used(d); n != 0 {
			t.Errorf("Used(%s): %d; want 0", tell(d), n)
		}
	}
}

// P3.1: each file is found at its place, and read with its bytes, be it sure or not.
func TestFindAndRead(t *testing.T) {
	for _, d := range may() {
		for i, f := range d.Files {
			if at := disk.Find(d, f.Name); at != i {
				t.Errorf("Find %q: %d; want %d", f.Name, at, i)
			}
			if b, e := disk.Read(d, f.Name); !bytes.Equal(b, f.Data) || e != api.OK {
				t.Errorf("Read %q: %.50q, %d; want %.50q", f.Name, b, e, f.Data)
			}
		}
	}
}

// P3.1: what is not there is at -1, and can't be read, whether it could be a name or not.
func TestFindNone(t *testing.T) {
	d := of(9, file("a", "x", true), file("c", "y", false))
	for _, n := range append([]string{"b", "0", "d", "aa", longest}, noNames...) {
		for _, d := range []api.Disk{d, of(0), {}} {
			if at := disk.Find(d, n); at != -1 {
				t.Errorf("Find %q: %d; want -1", n, at)
			}
			if b, e := disk.Read(d, n); len(b) != 0 || e != api.ErrNone {
				t.Errorf("Read %q: %v, %d; want ErrNone", n, b, e)
			}
		}
	}
}

// P3.1: on a disk that may not be nothing is found, not even what stands there, and nothing is read.
func TestFindOnNone(t *testing.T) {
	for _, d := range mayNot() {
		asked := []string{"", "a", "q"}
		for _, f := range d.Files {
			asked = append(asked, f.Name)
		}
		for _, n := range asked {
			if at := disk.Find(d, n); at != -1 {
				t.Errorf("Find(%s, %q): %d; want -1", tell(d), n, at)
			}
			if b, e := disk.Read(d, n); len(b) != 0 || e != api.ErrArg {
				t.Errorf("Read(%s, %q): %s, %d; want ErrArg", tell(d), n, tell(b), e)
			}
		}
	}
}

// P3.2: a file is written at its place in the order, and is not sure; others stay.
func TestWrite(t *testing.T) {
	d := of(9, file("b", "x", true), file("d", "y", false))
	wantDo(t, of(9), write("a", "xyz"), of(9, file("a", "xyz", false)), api.OK)
	wantDo(t, of(0), write("a", ""), of(0, file("a", "", false)), api.OK)
	wantDo(t, of(0), api.Op{Kind: api.OpWrite, A: "a"}, of(0, file("a", "", false)), api.OK)
	wantDo(t, d, write("a", "z"), of(9, file("a", "z", false), d.Files[0], d.Files[1]), api.OK)
	wantDo(t, d, write("c", "z"), of(9, d.Files[0], file("c", "z", false), d.Files[1]), api.OK)
	wantDo(t, d, write("e", "z"), of(9, d.Files[0], d.Files[1], file("e", "z", false)), api.OK)
	wantDo(t, d, write("ba", "z"), of(9, d.Files[0], file("ba", "z", false), d.Files[1]), api.OK)
	wantDo(t, d, write(longest, "z"), of(9, file(longest, "z", false), d.Files[0], d.Files[1]), api.OK)
	for _, n := range names {
		wantDo(t, of(1), write(n, "x"), of(1, file(n, "x", false)), api.OK)
	}
}

// P3.2: the other name of what is written doesn't matter.
func TestWriteOtherName(t *testing.T) {
	for _, b := range append([]string{"a", "b"}, noNames...) {
		o := write("a", "x")
		o.B = b
		wantDo(t, of(1), o, of(1, file("a", "x", false)), api.OK)
	}
}

// P3.2: what is there isn't written, and this is told ahead of a lack of room.
func TestWriteThere(t *testing.T) {
	d := of(2, file("a", "x", true), file("b", "y", false))
	for _, data := range []string{"", "x", "xyz"} {
		wantDo(t, d, write("a", data), d, api.ErrThere)
		wantDo(t, d, write("b", data), d, api.ErrThere)
	}
	full := of(0, many(64)...)
	wantDo(t, full, write("aa", ""), full, api.ErrThere)
	wantDo(t, full, write("cl", "x"), full, api.ErrThere)
}

// P3.2: a disk may become just full, of bytes and of files; there is no room for more.
func TestWriteFull(t *testing.T) {
	d := of(5, file("b", "xy", false))
	wantDo(t, d, write("a", "123"), of(5, file("a", "123", false), file("b", "xy", false)), api.OK)
	wantDo(t, d, write("a", "1234"), d, api.ErrFull)
	full := of(2, file("b", "xy", false))
	wantDo(t, full, write("a", ""), of(2, file("a", "", false), file("b", "xy", false)), api.OK)
	wantDo(t, full, write("a", "1"), full, api.ErrFull)
	wantDo(t, of(0), write("a", "1"), of(0), api.ErrFull)
	all := strings.Repeat("x", api.MaxCap)
	wantDo(t, of(api.MaxCap), write("a", all), of(api.MaxCap, file("a", all, false)), api.OK)
	wantDo(t, of(api.MaxCap), write("a", all+"x"), of(api.MaxCap), api.ErrFull)

	most := of(9, many(64)...)
	wantDo(t, of(9, many(63)...), write("cl", ""), of(9, append(many(63), file("cl", "", false))...), api.OK)
	wantDo(t, most, write("cm", ""), most, api.ErrFull)
	wantDo(t, most, write("a", ""), most, api.ErrFull)
}

// P3.2: a file is made sure, once or more; others stay as they are.
func TestSync(t *testing.T) {
	d := of(9, file("a", "x", false), file("b", "y", false), file("c", "z", true))
	wantDo(t, d, sync("a"), of(9, file("a", "x", true), d.Files[1], d.Files[2]), api.OK)
	wantDo(t, d, sync("b"), of(9, d.Files[0], file("b", "y", true), d.Files[2]), api.OK)
	wantDo(t, d, sync("c"), d, api.OK)
	wantDo(t, d, sync("d"), d, api.ErrNone)
	wantDo(t, of(0), sync("a"), of(0), api.ErrNone)
	o := sync("a")
	o.B, o.Data = "!", []byte("more")
	wantDo(t, d, o, of(9, file("a", "x", true), d.Files[1], d.Files[2]), api.OK)
}

// P3.2: a file gets another name, and its place by that, as sure as it is.
func TestRename(t *testing.T) {
	a, b, c := file("a", "x", true), file("b", "yy", false), file("c", "", true)
	d := of(9, a, b, c)
	wantDo(t, d, rename("a", "d"), of(9, b, c, file("d", "x", true)), api.OK)
	wantDo(t, d, rename("b", "0"), of(9, file("0", "yy", false), a, c), api.OK)
	wantDo(t, d, rename("c", "aa"), of(9, a, file("aa", "", true), b), api.OK)
	wantDo(t, d, rename("b", "bb"), of(9, a, file("bb", "yy", false), c), api.OK)
	wantDo(t, d, rename("b", longest), of(9, a, file(longest, "yy", false), c), api.OK)
	most := of(0, many(64)...)
	wantDo(t, most, rename("aa", "zz"), of(0, append(many(64)[1:], file("zz", "", true))...), api.OK)
}

// P3.2: a file that is there goes, if another one gets its name; how sure that was doesn't matter.
func TestRenameOnto(t *testing.T) {
	a, b, c := file("a", "x", true), file("b", "yy", false), file("c", "", true)
	d := of(3, a, b, c)
	wantDo(t, d, rename("a", "b"), of(3, file("b", "x", true), c), api.OK)
	wantDo(t, d, rename("b", "a"), of(3, file("a", "yy", false), c), api.OK)
	wantDo(t, d, rename("a", "c"), of(3, b, file("c", "x", true)), api.OK)
	wantDo(t, d, rename("c", "a"), of(3, file("a", "", true), b), api.OK)
	wantDo(t, d, rename("b", "c"), of(3, a, file("c", "yy", false)), api.OK)
}

// P3.2: nothing changes by a rename onto itself.
func TestRenameItself(t *testing.T) {
	for _, d := range may() {
		for _, f := range d.Files {
			wantDo(t, d, rename(f.Name, f.Name), d, api.OK)
		}
		wantDo(t, d, rename("q", "q"), d, api.ErrNone)
	}
}

// P3.2: what is no name can't be got, and this is told ahead of that there is no such file.
func TestRenameWrong(t *testing.T) {
	d := of(9, file("a", "x", true), file("c", "y", false))
	for _, n := range noNames {
		wantDo(t, d, rename("a", n), d, api.ErrArg)
		wantDo(t, d, rename("b", n), d, api.ErrArg)
	}
	wantDo(t, d, rename("b", "a"), d, api.ErrNone)
	wantDo(t, d, rename("b", "d"), d, api.ErrNone)
	wantDo(t, of(0), rename("a", "b"), of(0), api.ErrNone)
}

// P3.2: a file goes; others stay.
func TestDelete(t *testing.T) {
	a, b, c := file("a", "x", true), file("b", "yy", false), file("c", "", true)
	d := of(9, a, b, c)
	wantDo(t, d, drop("a"), of(9, b, c), api.OK)
	wantDo(t, d, drop("b"), of(9, a, c), api.OK)
	wantDo(t, d, drop("c"), of(9, a, b), api.OK)
	wantDo(t, d, drop("d"), d, api.ErrNone)
	wantDo(t, of(3, b), drop("b"), of(3), api.OK)
	wantDo(t, of(3), drop("b"), of(3), api.ErrNone)
	most := of(0, many(64)...)
	wantDo(t, most, drop("aa"), of(0, many(64)[1:]...), api.OK)
}

// P3.2: a disk that may not be, a name that is none, and a kind that is none are told as ErrArg, ahead of all else; the disk stays.
func TestDoWrong(t *testing.T) {
	d := of(1, file("a", "x", true))
	for kind := range api.Ops {
		for _, wrong := range mayNot() {
			wantDo(t, wrong, api.Op{Kind: kind, A: "a", B: "b"}, wrong, api.ErrArg)
			wantDo(t, wrong, api.Op{Kind: kind, A: "q", B: "!", Data: []byte("xyz")}, wrong, api.ErrArg)
		}
		for _, n := range noNames {
			wantDo(t, d, api.Op{Kind: kind, A: n, B: "b", Data: []byte("xyz")}, d, api.ErrArg)
			wantDo(t, d, api.Op{Kind: kind, A: n, B: n}, d, api.ErrArg)
		}
	}
	for _, kind := range []int{-1, -2, math.MinInt, api.Ops, api.Ops + 1, 256, 1 << 32, math.MaxInt} {
		wantDo(t, d, api.Op{Kind: kind, A: "a", B: "b"}, d, api.ErrArg)
		wantDo(t, d, api.Op{Kind: kind, A: "b", B: "c", Data: []byte("xyz")}, d, api.ErrArg)
	}
	wantDo(t, api.Disk{}, api.Op{}, api.Disk{}, api.ErrArg)
}

// P3.3: each file that is not sure takes the next pick, in their order; those that are sure take none.
func TestCrash(t *testing.T) {
	a, b, c, d := file("a", "123", false), file("b", "xyz", true), file("c", "", false), file("d", "7890", false)
	all := of(20, a, b, c, d)
	whole := of(20, file("a", "123", true), b, file("c", "", true), file("d", "7890", true))
	for _, x := range []struct {
		picks []int
		want  api.Disk
	}{
		{nil, of(20, b)},
		{[]int{}, of(20, b)},
		{[]int{0}, of(20, file("a", "", true), b)},
		{[]int{2}, of(20, file("a", "12", true), b)},
		{[]int{3, 0, 4}, whole},
		{[]int{4, 1, 5}, whole},
		{[]int{math.MaxInt, math.MaxInt, math.MaxInt}, whole},
		{[]int{3, 0, 4, 1, 1, -1}, whole},
		{[]int{-1, -1, -1}, of(20, b)},
		{[]int{-1, 0, 1}, of(20, b, file("c", "", true), file("d", "7", true))},
		{[]int{math.MinInt, -2, 3}, of(20, b, file("d", "789", true))},
		{[]int{1, -1, 2}, of(20, file("a", "1", true), b, file("d", "78", true))},
		{[]int{1, 2}, of(20, file("a", "1", true), b, file("c", "", true))},
	} {
		wantCrash(t, all, x.picks, x.want)
	}
	sure := of(3, file("a", "x", true), file("b", "y", true))
	for _, picks := range [][]int{nil, {-1}, {0, 0}, {9, 9, 9}} {
		wantCrash(t, sure, picks, sure)
		wantCrash(t, of(7), picks, of(7))
	}
}

// P3.3: a crash leaves a disk that may not be as it is.
func TestCrashWrong(t *testing.T) {
	for _, d := range mayNot() {
		for _, picks := range [][]int{nil, {-1}, {0, 0}, {9, 9, 9}} {
			wantCrash(t, d, picks, d)
		}
	}
	d := of(0, file("a", "x", false))
	wantCrash(t, d, []int{0}, d)
}

// P3.3: two disks are the same, if all parts are; those too that may not be.
func TestSame(t *testing.T) {
	d := append(may(), mayNot()...)
	for i, a := range d {
		for j, b := range d {
			if got, want := disk.Same(a, copyOf(b)), like(a, b); got != want || got != disk.Same(b, a) || i == j && !got {
				t.Errorf("%d and %d: %v; want %v", i, j, got, want)
			}
		}
	}
	a := of(9, file("a", "x", true), file("b", "yz", false))
	for i, b := range []api.Disk{
		of(8, a.Files...),
		of(9, a.Files[0]),
		of(9, a.Files[1]),
		of(9, a.Files[1], a.Files[0]),
		of(9, a.Files[0], a.Files[1], file("c", "", false)),
		of(9, file("a", "x", false), a.Files[1]),
		of(9, a.Files[0], file("b", "yz", true)),
		of(9, a.Files[0], file("b", "y", false)),
		of(9, a.Files[0], file("b", "yzz", false)),
		of(9, a.Files[0], file("b", "zy", false)),
		of(9, a.Files[0], file("c", "yz", false)),
		of(9),
		{},
	} {
		if disk.Same(a, b) || disk.Same(b, a) {
			t.Errorf("%d is not the same", i)
		}
	}
	none, empty := api.Disk{Cap: 1, Files: []api.File{{Name: "a"}}}, of(1, file("a", "", false))
	if !disk.Same(none, empty) || !disk.Same(api.Disk{}, api.Disk{Files: []api.File{}}) {
		t.Error("no bytes are no bytes, no files are no files")
	}
}

// bytesOf is a file of the model, which knows no order.
type bytesOf struct {
	data string
	sure bool
}

// model is a disk of three bytes, by the words of the chapter.
type model map[string]bytesOf

func (m model) used() int {
	n := 0
	for _, f := range m {
		n += len(f.data)
	}
	return n
}

func (m model) disk() api.Disk {
	d := of(3)
	for _, n := range slices.Sorted(maps.Keys(m)) {
		d.Files = append(d.Files, file(n, m[n].data, m[n].sure))
	}
	return d
}

func (m model) do(o api.Op) (model, api.Errno) {
	out := maps.Clone(m)
	a, there := m[o.A]
	switch {
	case o.Kind == api.OpWrite && there:
		return m, api.ErrThere
	case o.Kind == api.OpWrite && m.used()+len(o.Data) > 3:
		return m, api.ErrFull
	case o.Kind == api.OpWrite:
		out[o.A] = bytesOf{string(o.Data), false}
	case !there:
		return m, api.ErrNone
	case o.Kind == api.OpSync:
		out[o.A] = bytesOf{a.data, true}
	case o.Kind == api.OpRename:
		delete(out, o.A)
		out[o.B] = a
	case o.Kind == api.OpDelete:
		delete(out, o.A)
	}
	return out, api.OK
}

// crash takes the picks by the names of files.
func (m model) crash(picks []int) model {
	out := model{}
	for _, n := range slices.Sorted(maps.Keys(m)) {
		f := m[n]
		if f.sure {
			out[n] = f
			continue
		}
		k := -1
		if len(picks) > 0 {
			k, picks = picks[0], picks[1:]
		}
		if k >= 0 {
			out[n] = bytesOf{f.data[:min(k, len(f.data))], true}
		}
	}
	return out
}

// all are what may be done to files of three names.
func all() []api.Op {
	var out []api.Op
	names := []string{"a", "b", "ba"}
	for _, a := range names {
		out = append(out, write(a, ""), write(a, "1"), write(a, "23"), sync(a), drop(a))
		for _, b := range names {
			out = append(out, rename(a, b))
		}
	}
	return out
}

// reached are the models that come of an empty one by whatever is done to it.
func reached() []model {
	out := []model{{}}
	for i := 0; i < len(out); i++ {
		for _, o := range all() {
			m, _ := out[i].do(o)
			if !slices.ContainsFunc(out, func(n model) bool { return maps.Equal(m, n) }) {
				out = append(out, m)
			}
		}
	}
	return out
}

// picks are all picks of up to three numbers.
func picks() [][]int {
	out := [][]int{nil}
	for i := 0; len(out[i]) < 3; i++ {
		for k := -1; k <= 3; k++ {
			out = append(out, append(slices.Clone(out[i]), k))
		}
	}
	return out
}

// P3.2, P3.3: whatever is done to a small disk, and whatever a crash keeps of it, is what the model tells; a disk that may be stays one.
func TestModel(t *testing.T) {
	if n := len(reached()); n < 100 {
		t.Fatalf("%d models are too few", n)
	}
	for _, m := range reached() {
		d := m.disk()
		if !disk.May(d) || disk.Used(d) != m.used() {
			t.Errorf("%v: used %d; want %d", d, disk.Used(d), m.used())
		}
		for _, o := range all() {
			next, e := m.do(o)
			wantDo(t, d, o, next.disk(), e)
		}
		for _, p := range picks() {
			wantCrash(t, d, p, m.crash(p).disk())
		}
	}
}

// P3.4: what is sure stays, whatever is done to others, through every crash, till it goes, or another one takes its name.
func TestSureStays(t *testing.T) {
	stays := func(d api.Disk, f api.File) bool {
		at := disk.Find(d, f.Name)
		return at >= 0 && like(of(0, d.Files[at]), of(0, f))
	}
	for _, m := range reached() {
		d := m.disk()
		for _, f := range d.Files {
			if !f.Sure {
				continue
			}
			for _, o := range all() {
				gone := o.Kind == api.OpDelete && o.A == f.Name
				away := o.Kind == api.OpRename && o.A == f.Name && o.B != o.A
				onto := o.Kind == api.OpRename && o.B == f.Name && o.B != o.A && disk.Find(d, o.A) >= 0
				if x, _ := disk.Do(d, o); !gone && !away && !onto && !stays(x, f) {
					t.Errorf("%v of %v, by %v: %v", f, d, o, x)
				}
			}
			for _, p := range picks() {
				if x := disk.Crash(d, p); !stays(x, f) {
					t.Errorf("%v of %v, crashed with %v: %v", f, d, p, x)
				}
			}
		}
	}
}

// P3.4: by crash after crash there is no more to lose.
func TestCrashTwice(t *testing.T) {
	for _, m := range reached() {
		for _, p := range picks() {
			once := disk.Crash(m.disk(), p)
			if !disk.May(once) {
				t.Errorf("%v may be", once)
			}
			wantCrash(t, once, nil, once)
			wantCrash(t, once, []int{0, -1}, once)
		}
	}
}

// The chapter's example.
func TestExample(t *testing.T) {
	d, _ := disk.New(5)
	d, e := disk.Do(d, write("ab", "123"))
	if e != api.OK {
		t.Fatal(e)
	}
	wantDo(t, d, write("c", "456"), of(5, file("ab", "123", false)), api.ErrFull)
	wantCrash(t, d, []int{2}, of(5, file("ab", "12", true)))
}

// R3: what is handed in stays, also behind the lists' lengths.
func TestArgumentsStay(t *testing.T) {
	back := []byte("12345678")
	files := []api.File{{Name: "a", Data: back[:2]}, {Name: "c", Data: back[2:4:4], Sure: true}, file("e", "q", false), file("f", "r", true)}
	kept := append([]int{1, 9}, 7, 7)[:1]
	d := api.Disk{Cap: 20, Files: files[:2]}
	same := func(what any) {
		t.Helper()
		want := []api.File{file("a", "12", false), file("c", "34", true), file("e", "q", false), file("f", "r", true)}
		if string(back) != "12345678" || !reflect.DeepEqual(files, want) || !slices.Equal(kept[:3], []int{1, 9, 7}) {
			t.Errorf("%v: %q, %v, %v", what, back, files, kept[:3])
		}
	}
	for _, o := range []api.Op{write("b", "x"), write("0", ""), {Kind: api.OpWrite, A: "z", Data: back[4:6]}, write("a", "x"), sync("a"), sync("c"), rename("a", "c"), rename("c", "a"), rename("a", "b"), rename("a", "a"), rename("a", "!"), drop("a"), drop("c"), drop("e"), drop("f")} {
		disk.Do(d, o)
		same(o)
	}
	wantDo(t, d, drop("e"), d, api.ErrNone)
	for _, p := range [][]int{nil, kept, {0}, {-1}, {9}} {
		disk.Crash(d, p)
		same(p)
	}
	two := api.Disk{Cap: 20, Files: []api.File{file("a", "xyz", false), file("b", "xyz", false)}}
	wantCrash(t, two, kept, of(20, file("a", "x", true)))
	disk.May(d)
	disk.Used(d)
	disk.Find(d, "e")
	disk.Read(d, "a")
	disk.Same(d, of(20, files[0], files[1]))
	same("what only asks")
}

// spoil changes all bytes of d, and all its files.
func spoil(d api.Disk) {
	for i, f := range d.Files {
		f.Data = f.Data[:cap(f.Data)]
		for j := range f.Data {
			f.Data[j] = '!'
		}
		d.Files[i] = api.File{Name: "!"}
	}
	more := d.Files[len(d.Files):cap(d.Files)]
	clear(more)
}

// R3: what is answered is new memory: changed, it changes no argument, and no other file of the answer.
func TestAnswersAreNew(t *testing.T) {
	one := []byte("xy")
	d := of(20, api.File{Name: "a", Data: one}, api.File{Name: "b", Data: one, Sure: true}, file("c", "z", false))
	was := copyOf(d)
	wrong := of(1, file("a", "xy", true), file("a", "xy", false))
	wasWrong := copyOf(wrong)
	data := []byte("new")
	ops := append(all(), api.Op{Kind: api.OpWrite, A: "n", Data: data}, api.Op{Kind: 9, A: "a"}, write("n", strings.Repeat("x", 99)))
	check := func(what any, got api.Disk) {
		t.Helper()
		spoil(got)
		if !like(d, was) || !like(wrong, wasWrong) || string(data) != "new" {
			t.Errorf("%v: %v, %v, %q", what, d, wrong, data)
		}
	}
	for _, o := range ops {
		x, _ := disk.Do(d, o)
		check(o, x)
		x, _ = disk.Do(wrong, o)
		check(o, x)
	}
	for _, p := range picks() {
		check(p, disk.Crash(d, p))
		check(p, disk.Crash(wrong, p))
	}
	b, _ := disk.Read(d, "a")
	check("Read", of(0, api.File{Data: b}))

	x, _ := disk.Do(d, sync("a"))
	clear(x.Files[0].Data)
	if string(x.Files[1].Data) != "xy" {
		t.Error("two files of one answer share their bytes")
	}
	x = disk.Crash(d, []int{1})
	_ = append(x.Files[0].Data, '!')
	clear(x.Files[0].Data)
	if string(x.Files[1].Data) != "xy" {
		t.Error("two files of one answer share their bytes")
	}
}
