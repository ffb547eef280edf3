package paths

import (
	"slices"
	"strings"
	"testing"

	"syndic/api"
)

const longest = "abcdefghij-_0189"

// deepest has as many names as a path may have.
var deepest = strings.Repeat("/"+longest, api.MaxDepth)

// right are paths, rising.
var right = []string{
	"/", "/-", "/0", "/9/z", "/_", "/a", "/a/0", "/a/a", "/a/a/a", "/a/b", "/a-", "/a-/a", "/a0", "/aa", "/aa/a",
	deepest[:17], deepest, "/b", "/z",
}

// wrong are texts that are no paths.
var wrong = []string{
	"", "a", "a/b", "//", "///", "/a/", "/a//b", "//a", "/A", "/a/B", "/.", "/a b", "/a.b", "/é", "/\x00", "/a\xff", " /a", "/a\n",
	"/`", "/{", "/:", "/a/" + longest + "x", "/" + longest + "x", deepest + "/a", strings.Repeat("/a", 9), strings.Repeat("/", 1000), strings.Repeat("/a", 10000),
}

func TestValid(t *testing.T) {
	for _, p := range right {
		if !Valid(p) {
			t.Error(p)
		}
	}
	for _, p := range wrong {
		if Valid(p) {
			t.Errorf("%q", p)
		}
	}
	for b := range 256 {
		name := b >= 'a' && b <= 'z' || b >= '0' && b <= '9' || b == '-' || b == '_'
		if Valid("/x"+string([]byte{byte(b)})+"y") != (name || b == '/') {
			t.Error(b)
		}
	}
}

func TestParts(t *testing.T) {
	for _, c := range []struct {
		path, names, parent, last string
		depth                     int
	}{
		{"/", "", "", "", 0},
		{"/a", "a", "/", "a", 1},
		{"/a/b", "a b", "/a", "b", 2},
		{"/a/b/-_9", "a b -_9", "/a/b", "-_9", 3},
	} {
		if !slices.Equal(Names(c.path), strings.Fields(c.names)) || Parent(c.path) != c.parent || Last(c.path) != c.last || Depth(c.path) != c.depth {
			t.Error(c.path, Names(c.path), Parent(c.path), Last(c.path), Depth(c.path))
		}
	}
	if Depth(deepest) != 8 || Last(deepest) != longest || Parent(deepest)+"/"+longest != deepest {
		t.Error(Depth(deepest), Last(deepest), Parent(deepest))
	}
	for _, p := range wrong {
		if len(Names(p)) != 0 || Parent(p) != "" || Last(p) != "" || Depth(p) != -1 {
			t.Errorf("%q: %q %q %q %d", p, Names(p), Parent(p), Last(p), Depth(p))
		}
	}
}

func TestOf(t *testing.T) {
	for _, p := range right {
		if got, err := Of(Names(p)); got != p || err != api.OK {
			t.Errorf("%q: %q, %v", p, got, err)
		}
	}
	if p, err := Of([]string{}); p != "/" || err != api.OK {
		t.Errorf("%q, %v", p, err)
	}
	for _, names := range [][]string{{""}, {"a", ""}, {"", "a"}, {"A"}, {"a/b"}, {"/"}, {longest + "x"}, {"a", "b", "é"}, strings.Fields("1 2 3 4 5 6 7 8 9")} {
		if p, err := Of(names); p != "" || err != api.ErrArg {
			t.Errorf("%q: %q, %v", names, p, err)
		}
	}
}

func TestBelow(t *testing.T) {
	for _, c := range []struct {
		p, q string
		want bool
	}{
		{"/", "/a", true},
		{"/", "/a/b/c", true},
		{"/a", "/a/b", true},
		{"/a", "/a/b/c", true},
		{"/", "/", false},
		{"/a", "/a", false},
		{"/a", "/ab", false},
		{"/a", "/ab/c", false},
		{"/a/b", "/a", false},
		{"/a", "/", false},
		{"/a/b", "/a/c/d", false},
		{"/b", "/a/b", false},
		{"", "/a", false},
		{"/", "a", false},
		{"/a", "/a/", false},
		{"/a/", "/a/b", false},
	} {
		if Below(c.p, c.q) != c.want {
			t.Error(c.p, c.q)
		}
	}
}

func TestLess(t *testing.T) {
	for i, p := range right {
		for j, q := range right {
			if Less(p, q) != (i < j) {
				t.Error(p, q)
			}
		}
		for _, q := range wrong {
			if Less(p, q) || Less(q, p) || Less(q, q) || Below(p, q) || Below(q, p) {
				t.Errorf("%q %q", p, q)
			}
		}
	}
}

// The parent of one that is below is below, or it.
func TestParentOfOneBelow(t *testing.T) {
	for _, p := range right {
		for _, q := range right {
			if u := Parent(q); Below(p, q) && u != p && !Below(p, u) {
				t.Error(p, q)
			}
		}
	}
}

func TestNamesAreTheCallersOwn(t *testing.T) {
	names := Names("/a/b")
	names[0] = "z"
	if !slices.Equal(Names("/a/b"), []string{"a", "b"}) {
		t.Error(Names("/a/b"))
	}
}
