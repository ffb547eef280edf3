package touch

import (
	"math"
	"slices"
	"testing"

	"syndic/api"
	"syndic/dir"
)

// ask is a command of a client and a path.
func ask(client int, op api.Op, path string) api.Command {
	return api.Command{Client: client, Seq: 1, Op: op, Path: path, Value: "w", Version: 1}
}

// shown is cells as a text: the part, and the path, of each.
func shown(l []Cell) string {
	s := ""
	for _, x := range l {
		s += " " + string([]byte{x.What}) + x.Path
	}
	return s
}

func TestReadsAndWrites(t *testing.T) {
	for _, c := range []struct {
		op            api.Op
		path          string
		reads, writes string
	}{
		{api.OpCreate, "/a/b", " e/a e/a/b", " e/a/b v/a/b k/a"},
		{api.OpCreate, "/a", " e/ e/a", " e/a v/a k/"},
		{api.OpCreate, "/", " e/", ""},
		{api.OpDelete, "/a/b", " e/a/b k/a/b", " e/a/b v/a/b k/a"},
		{api.OpDelete, "/", "", ""},
		{api.OpSet, "/a/b", " e/a/b", " v/a/b"},
		{api.OpSet, "/", "", ""},
		{api.OpCas, "/a", " e/a v/a", " v/a"},
		{api.OpCas, "/", "", ""},
		{api.OpGet, "/a", " e/a v/a", ""},
		{api.OpGet, "/", " e/ v/", ""},
		{api.OpList, "/a", " e/a k/a", ""},
		{api.OpList, "/", " e/ k/", ""},
	} {
		x := ask(1, c.op, c.path)
		if shown(Reads(x)) != c.reads || shown(Writes(x)) != c.writes {
			t.Error(c.op, c.path, shown(Reads(x)), shown(Writes(x)))
		}
	}
}

func TestNoCellsOfWhatIsNone(t *testing.T) {
	var l []api.Command
	for op := api.OpNone; op <= api.OpReplace; op++ {
		l = append(l, ask(1, op, ""), ask(1, op, "a"), ask(1, op, "/a/"))
	}
	for _, op := range []api.Op{api.OpNone, api.OpAdd, api.OpRemove, api.OpReplace, 10, -1, math.MaxInt, math.MinInt} {
		l = append(l, ask(1, op, "/a"), ask(1, op, "/"))
	}
	for _, c := range l {
		if len(Reads(c)) != 0 || len(Writes(c)) != 0 || Paths(c, ask(1, api.OpCreate, "/a")) {
			t.Error(c)
		}
	}
}

func TestPaths(t *testing.T) {
	for _, c := range []struct {
		a, b api.Command
		want bool
	}{
		{ask(1, api.OpSet, "/a"), ask(2, api.OpGet, "/b"), false},
		{ask(1, api.OpSet, "/a"), ask(2, api.OpGet, "/a"), true},
		{ask(1, api.OpSet, "/a"), ask(2, api.OpSet, "/a"), true},
		{ask(1, api.OpSet, "/a"), ask(1, api.OpSet, "/b"), false},
		{ask(1, api.OpGet, "/a"), ask(2, api.OpGet, "/a"), false},
		{ask(1, api.OpCreate, "/a/b"), ask(2, api.OpList, "/a"), true},
		{ask(1, api.OpCreate, "/a/b"), ask(2, api.OpGet, "/a"), false},
		{ask(1, api.OpCreate, "/a/b"), ask(2, api.OpSet, "/a"), false},
		{ask(1, api.OpCreate, "/a/b"), ask(2, api.OpDelete, "/a"), true},
		{ask(1, api.OpCreate, "/a/b"), ask(2, api.OpCreate, "/a"), true},
		{ask(1, api.OpCreate, "/a/b"), ask(2, api.OpCreate, "/a/c"), true},
		{ask(1, api.OpCreate, "/a/b"), ask(2, api.OpCreate, "/b/c"), false},
		{ask(1, api.OpSet, "/a"), ask(2, api.OpDelete, "/a"), true},
		{ask(1, api.OpSet, "/a/b"), ask(2, api.OpList, "/a"), false},
		{ask(1, api.OpSet, "/"), ask(2, api.OpGet, "/"), false},
	} {
		if Paths(c.a, c.b) != c.want || Paths(c.b, c.a) != c.want {
			t.Error(c.a, c.b)
		}
	}
}

func TestBoth(t *testing.T) {
	set, get := ask(1, api.OpSet, "/a"), ask(2, api.OpGet, "/b")
	for _, c := range []struct {
		a, b api.Command
		want bool
	}{
		{set, get, false},
		{set, ask(2, api.OpGet, "/a"), true},
		{set, ask(1, api.OpGet, "/b"), true},
		{ask(1, api.OpGet, "/b"), ask(1, api.OpGet, "/c"), true},
		{set, ask(2, api.OpAdd, ""), true},
		{set, ask(2, api.OpRemove, ""), true},
		{ask(2, api.OpReplace, "/z"), get, true},
		{ask(2, api.OpAdd, ""), ask(3, api.OpAdd, ""), true},
		{set, ask(1, api.OpNone, "/a"), false},
		{ask(2, api.OpAdd, ""), ask(2, api.OpNone, ""), false},
		{api.Command{}, api.Command{}, false},
		{ask(1, 77, "/a"), ask(1, 78, "/b"), true},
		{ask(1, 77, "/a"), ask(2, api.OpSet, "/a"), false},
	} {
		if Both(c.a, c.b) != c.want || Both(c.b, c.a) != c.want {
			t.Error(c.a, c.b)
		}
	}
}

func TestControl(t *testing.T) {
	for op := api.Op(-1); op < 12; op++ {
		if Control(ask(1, op, "/a")) != (op == api.OpAdd || op == api.OpRemove || op == api.OpReplace) {
			t.Error(op)
		}
	}
}

// starts are directories that two commands are tried on.
func starts(t *testing.T) []*dir.Dir {
	var out []*dir.Dir
	for _, l := range [][]string{{}, {"/a"}, {"/a", "/a/b"}, {"/a", "/a/b", "/b"}, {"/b"}, {"/a", "/a/a", "/a/a/b"}} {
		var entries []api.Entry
		for _, p := range l {
			entries = append(entries, api.Entry{Path: p, Value: "v", Version: 1})
		}
		d, err := dir.Of(entries)
		if err != api.OK {
			t.Fatal(err)
		}
		out = append(out, d)
	}
	return out
}

// sameReply tells whether two replies are the same.
func sameReply(a, b api.Reply) bool {
	return a.Err == b.Err && a.Value == b.Value && a.Version == b.Version && slices.Equal(a.Names, b.Names)
}

// Two that don't matter to each other do the same in either order.
func TestEitherOrder(t *testing.T) {
	var all []api.Command
	for op := api.OpNone; op <= api.OpAdd; op++ {
		for _, p := range []string{"/", "/a", "/a/b", "/b", "/a/a", "/a/a/b", "/a/b/c", "?"} {
			all = append(all, ask(1, op, p))
		}
	}
	pairs := 0
	for _, a := range all {
		for _, b := range all {
			if Paths(a, b) {
				continue
			}
			pairs++
			for _, d := range starts(t) {
				one, two := d.Clone(), d.Clone()
				a1, b1 := one.Apply(a), one.Apply(b)
				b2, a2 := two.Apply(b), two.Apply(a)
				if !sameReply(a1, a2) || !sameReply(b1, b2) || !slices.Equal(one.Entries(), two.Entries()) {
					t.Fatal(a, b, d.Entries())
				}
			}
		}
	}
	if pairs == 0 {
		t.Error("all matter to each other")
	}
}
