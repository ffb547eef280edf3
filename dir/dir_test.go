package dir

import (
	"math"
	"reflect"
	"strings"
	"testing"

	"syndic/api"
	"syndic/paths"
)

// ask is a command of a path.
func ask(op api.Op, path, value string, version int) api.Command {
	return api.Command{Client: 1, Seq: 1, Op: op, Path: path, Value: value, Version: version}
}

// entry is one of a directory.
func entry(path, value string, version int) api.Entry {
	return api.Entry{Path: path, Value: value, Version: version}
}

// same tells whether two replies are, lists without names among them.
func same(a, b api.Reply) bool {
	return a.Err == b.Err && a.Value == b.Value && a.Version == b.Version && strings.Join(a.Names, "/") == strings.Join(b.Names, "/") && len(a.Names) == len(b.Names)
}

// sample is a directory with some entries.
func sample(t *testing.T) *Dir {
	d, err := Of([]api.Entry{entry("/a", "1", 1), entry("/a/b", "2", 2), entry("/a/b/c", "", 3), entry("/a/c", "4", 4), entry("/a-", "5", 5), entry("/b", "6", 6)})
	if err != api.OK {
		t.Fatal(err)
	}
	return d
}

func TestApply(t *testing.T) {
	long := strings.Repeat("v", 64)
	d := New()
	for i, s := range []struct {
		c    api.Command
		want api.Reply
	}{
		{ask(api.OpList, "/", "", 0), api.Reply{}},
		{ask(api.OpGet, "/", "", 0), api.Reply{}},
		{ask(api.OpCreate, "/", "", 0), api.Reply{Err: api.ErrExists}},
		{ask(api.OpCreate, "/a/b", "x", 0), api.Reply{Err: api.ErrNone}},
		{ask(api.OpGet, "/a", "", 0), api.Reply{Err: api.ErrNone}},
		{ask(api.OpSet, "/a", "x", 0), api.Reply{Err: api.ErrNone}},
		{ask(api.OpCas, "/a", "x", 0), api.Reply{Err: api.ErrNone}},
		{ask(api.OpList, "/a", "", 0), api.Reply{Err: api.ErrNone}},
		{ask(api.OpDelete, "/a", "", 0), api.Reply{Err: api.ErrNone}},
		{ask(api.OpCreate, "/a", "x", 7), api.Reply{Version: 1}},
		{ask(api.OpCreate, "/a", "y", 0), api.Reply{Err: api.ErrExists}},
		{ask(api.OpGet, "/a", "", 0), api.Reply{Value: "x", Version: 1}},
		{ask(api.OpSet, "/a", "y", 9), api.Reply{Version: 2}},
		{ask(api.OpGet, "/a", long+long, 0), api.Reply{Value: "y", Version: 2}},
		{ask(api.OpCas, "/a", "z", 1), api.Reply{Err: api.ErrVersion, Version: 2}},
		{ask(api.OpGet, "/a", "", 0), api.Reply{Value: "y", Version: 2}},
		{ask(api.OpCas, "/a", long, 2), api.Reply{Version: 3}},
		{ask(api.OpGet, "/a", "", 0), api.Reply{Value: long, Version: 3}},
		{ask(api.OpCreate, "/a/z", "", 0), api.Reply{Version: 1}},
		{ask(api.OpCreate, "/a/b", "", 0), api.Reply{Version: 1}},
		{ask(api.OpCreate, "/a/b/q", "", 0), api.Reply{Version: 1}},
		{ask(api.OpCreate, "/a-", "", 0), api.Reply{Version: 1}},
		{ask(api.OpList, "/a", long+long, 0), api.Reply{Names: []string{"b", "z"}}},
		{ask(api.OpList, "/", "", 0), api.Reply{Names: []string{"a", "a-"}}},
		{ask(api.OpList, "/a/z", "", 0), api.Reply{}},
		{ask(api.OpDelete, "/a", "", 0), api.Reply{Err: api.ErrBusy}},
		{ask(api.OpDelete, "/a/b", "", 0), api.Reply{Err: api.ErrBusy}},
		{ask(api.OpDelete, "/a/b/q", long+long, 0), api.Reply{}},
		{ask(api.OpDelete, "/a/b", "", 0), api.Reply{}},
		{ask(api.OpDelete, "/a/z", "", 0), api.Reply{}},
		{ask(api.OpDelete, "/a", "", 0), api.Reply{}},
		{ask(api.OpGet, "/a", "", 0), api.Reply{Err: api.ErrNone}},
		{ask(api.OpCreate, "/a", "new", 0), api.Reply{Version: 1}},
	} {
		if got := d.Apply(s.c); !same(got, s.want) {
			t.Errorf("%d: %+v: %+v", i, s.c, got)
		}
	}
	if d.Len() != 2 {
		t.Error(d.Entries())
	}
}

func TestApplyOfWhatCantBeAsked(t *testing.T) {
	d := sample(t)
	before := d.Entries()
	long := strings.Repeat("v", 65)
	wrong := []api.Command{
		ask(api.OpCreate, "/z", long, 0), ask(api.OpSet, "/a", long, 0), ask(api.OpCas, "/a", long, 1), ask(api.OpCreate, "/", long, 0), ask(api.OpSet, "/z", long, 0),
		ask(api.OpDelete, "/", "", 0), ask(api.OpSet, "/", "", 0), ask(api.OpCas, "/", "", 0),
	}
	for _, op := range []api.Op{-1, api.OpNone, api.OpAdd, api.OpRemove, api.OpReplace, 10, math.MaxInt} {
		wrong = append(wrong, ask(op, "/a", "", 1), ask(op, "/", "", 0))
	}
	for op := api.OpCreate; op <= api.OpCas; op++ {
		wrong = append(wrong, ask(op, "", "", 1), ask(op, "a", "", 1), ask(op, "/a/", "", 1), ask(op, "/A", "", 1))
	}
	for _, c := range wrong {
		if got := d.Apply(c); !same(got, api.Reply{Err: api.ErrArg}) {
			t.Errorf("%+v: %+v", c, got)
		}
	}
	if !reflect.DeepEqual(before, d.Entries()) {
		t.Error(d.Entries())
	}
}

func TestEntries(t *testing.T) {
	d := sample(t)
	l := d.Entries()
	for i := range l {
		if i > 0 && !paths.Less(l[i-1].Path, l[i].Path) {
			t.Error("they do not rise:", l)
		}
	}
	if len(l) != 6 || d.Len() != 6 || l[3] != entry("/a/c", "4", 4) || l[4] != entry("/a-", "5", 5) {
		t.Error(l)
	}
	l[0].Value = "changed"
	again, err := Of(d.Entries())
	if err != api.OK || !reflect.DeepEqual(again.Entries(), sample(t).Entries()) {
		t.Error(again, err)
	}
	if New().Len() != 0 || len(New().Entries()) != 0 {
		t.Error("a new one is not empty")
	}
}

func TestOfWhatIsNoDirectory(t *testing.T) {
	for i, l := range [][]api.Entry{
		{entry("/", "", 1)},
		{entry("", "", 1)},
		{entry("/A", "", 1)},
		{entry("/a", "", 0)},
		{entry("/a", "", -1)},
		{entry("/a", strings.Repeat("v", 65), 1)},
		{entry("/a/b", "", 1)},
		{entry("/a", "", 1), entry("/a", "", 1)},
		{entry("/b", "", 1), entry("/a", "", 1)},
		{entry("/a-", "", 1), entry("/a", "", 1), entry("/a/b", "", 1)},
		{entry("/a", "", 1), entry("/b/c", "", 1)},
		{entry("/a", "", 1), entry("/a/b/c", "", 1)},
		{entry("/a", "", 1), entry("b", "", 1)},
	} {
		if d, err := Of(l); d != nil || err != api.ErrArg {
			t.Error(i, d, err)
		}
	}
	if d, err := Of(nil); d == nil || err != api.OK || d.Len() != 0 {
		t.Error(d, err)
	}
	if d, err := Of([]api.Entry{entry("/a", strings.Repeat("v", 64), math.MaxInt)}); d == nil || err != api.OK {
		t.Error(d, err)
	}
}

func TestCloneIsItsOwn(t *testing.T) {
	d := sample(t)
	c := d.Clone()
	c.Apply(ask(api.OpSet, "/a", "c", 0))
	d.Apply(ask(api.OpCreate, "/d", "d", 0))
	if d.Len() != 7 || c.Len() != 6 || d.Apply(ask(api.OpGet, "/a", "", 0)).Value != "1" || c.Apply(ask(api.OpGet, "/a", "", 0)).Value != "c" {
		t.Error(d.Entries(), c.Entries())
	}
	if !New().Clone().there("/") || New().Clone().Apply(ask(api.OpCreate, "/a", "", 0)).Err != api.OK {
		t.Error("the clone of an empty one")
	}
}

func TestReadingChangesNothing(t *testing.T) {
	d := sample(t)
	for _, p := range []string{"/", "/a", "/a/b", "/z", "/a/z", "?"} {
		d.Apply(ask(api.OpGet, p, "v", 1))
		names := d.Apply(ask(api.OpList, p, "v", 1)).Names
		for i := range names {
			names[i] = "changed"
		}
	}
	if !reflect.DeepEqual(d.Entries(), sample(t).Entries()) {
		t.Error(d.Entries())
	}
}

// Whatever is done: each path has its parent, and what is told is a directory's again.
func TestEachPathHasItsParent(t *testing.T) {
	d, turn := New(), uint32(1)
	next := func(n int) int {
		turn = turn*1664525 + 1013904223
		return int(turn>>8) % n
	}
	for range 5000 {
		names := []string{}
		for range next(4) {
			names = append(names, string([]byte{byte('a' + next(3))}))
		}
		p, _ := paths.Of(names)
		d.Apply(ask(api.Op(next(8)), p, "v", next(4)))
		for _, x := range d.Entries() {
			if !d.there(paths.Parent(x.Path)) || x.Version < 1 {
				t.Fatal(x)
			}
		}
		if again, err := Of(d.Entries()); err != api.OK || again.Len() != d.Len() {
			t.Fatal(d.Entries())
		}
	}
}
