package session

import (
	"math"
	"reflect"
	"slices"
	"strings"
	"testing"

	"syndic/api"
)

// ask is a command of a client.
func ask(client, seq int, op api.Op, path, value string) api.Command {
	return api.Command{Client: client, Seq: seq, Op: op, Path: path, Value: value}
}

// same tells whether two replies are.
func same(a, b api.Reply) bool {
	return a.Err == b.Err && a.Value == b.Value && a.Version == b.Version && slices.Equal(a.Names, b.Names)
}

func TestAnsweredOnce(t *testing.T) {
	m := New()
	control := api.Reply{Err: api.ErrFull, Value: "c", Version: 5, Names: []string{"n"}}
	for i, s := range []struct {
		c    api.Command
		want api.Reply
	}{
		{ask(1, 1, api.OpCreate, "/a", "x"), api.Reply{Version: 1}},
		{ask(1, 1, api.OpCreate, "/a", "x"), api.Reply{Version: 1}},
		{ask(1, 1, api.OpDelete, "/a", ""), api.Reply{Version: 1}},
		{ask(2, 1, api.OpCreate, "/a", "x"), api.Reply{Err: api.ErrExists}},
		{ask(2, 1, api.OpGet, "/a", ""), api.Reply{Err: api.ErrExists}},
		{ask(1, 5, api.OpSet, "/a", "y"), api.Reply{Version: 2}},
		{ask(1, 4, api.OpGet, "/a", ""), api.Reply{Err: api.ErrOld}},
		{ask(1, 1, api.OpCreate, "/a", "x"), api.Reply{Err: api.ErrOld}},
		{ask(1, 5, api.OpSet, "/a", "y"), api.Reply{Version: 2}},
		{ask(2, 2, api.OpList, "/", ""), api.Reply{Names: []string{"a"}}},
		{ask(1, 6, api.OpCreate, "/b", ""), api.Reply{Version: 1}},
		{ask(2, 2, api.OpList, "/", ""), api.Reply{Names: []string{"a"}}},
		{ask(2, 3, api.OpAdd, "/zzz", ""), control},
		{ask(2, 3, api.OpRemove, "", ""), control},
		{ask(2, 3, api.OpGet, "/a", ""), control},
		{ask(2, 4, api.OpReplace, "", ""), control},
		{ask(3, 1, 77, "/a", ""), api.Reply{Err: api.ErrArg}},
		{ask(3, 1, api.OpGet, "/a", ""), api.Reply{Err: api.ErrArg}},
		{ask(0, 1<<40, api.OpGet, "/a", ""), api.Reply{Value: "y", Version: 2}},
		{ask(0, 1<<40-1, api.OpGet, "/a", ""), api.Reply{Err: api.ErrOld}},
	} {
		if got := m.Apply(s.c, control); !same(got, s.want) {
			t.Errorf("%d: %+v: %+v", i, s.c, got)
		}
	}
	if len(m.Paths()) != 2 {
		t.Error(m.Paths())
	}
	var clients []int
	for _, s := range m.Sessions() {
		clients = append(clients, s.Client, s.Seq)
	}
	if !slices.Equal(clients, []int{0, 1 << 40, 1, 6, 2, 4, 3, 1}) {
		t.Error(clients)
	}
}

func TestNothingIsDone(t *testing.T) {
	m := New()
	control := api.Reply{Err: api.ErrFull}
	for _, c := range []api.Command{{}, ask(1, 1, api.OpNone, "/a", "x"), ask(-1, -1, api.OpNone, "", "")} {
		if got := m.Apply(c, control); !same(got, api.Reply{}) {
			t.Errorf("%+v: %+v", c, got)
		}
	}
	for _, op := range []api.Op{api.OpCreate, api.OpAdd, 77} {
		for _, c := range []api.Command{ask(-1, 1, op, "/a", ""), ask(1<<40+1, 1, op, "/a", ""), ask(1, 0, op, "/a", ""), ask(1, -1, op, "/a", ""), ask(1, 1<<40+1, op, "/a", ""), ask(math.MinInt, math.MaxInt, op, "/a", "")} {
			if got := m.Apply(c, control); !same(got, api.Reply{Err: api.ErrArg}) || Valid(c) {
				t.Errorf("%+v: %+v", c, got)
			}
		}
	}
	if len(m.Paths()) != 0 || len(m.Sessions()) != 0 {
		t.Error(m.Paths(), m.Sessions())
	}
}

func TestValid(t *testing.T) {
	for _, c := range []api.Command{ask(0, 1, 77, "?", ""), ask(1<<40, 1<<40, api.OpNone, "", ""), ask(0, 1<<40, api.OpGet, "", "")} {
		if !Valid(c) {
			t.Error(c)
		}
	}
}

// sample is a machine with paths and sessions.
func sample(t *testing.T) *Machine {
	m, err := Of([]api.Entry{{Path: "/a", Value: "v", Version: 3}}, []api.Session{
		{Client: 0, Seq: 4, Reply: api.Reply{Names: []string{"a", "b"}}},
		{Client: 7, Seq: 1 << 40, Reply: api.Reply{Err: 99, Value: "kept"}},
	})
	if err != api.OK {
		t.Fatal(err)
	}
	return m
}

func TestOf(t *testing.T) {
	m := sample(t)
	if got := m.Apply(ask(0, 4, api.OpGet, "/a", ""), api.Reply{}); !same(got, api.Reply{Names: []string{"a", "b"}}) {
		t.Error(got)
	}
	if got := m.Apply(ask(7, 1<<40, api.OpGet, "/a", ""), api.Reply{}); !same(got, api.Reply{Err: 99, Value: "kept"}) {
		t.Error(got)
	}
	if got := m.Apply(ask(0, 5, api.OpGet, "/a", ""), api.Reply{}); !same(got, api.Reply{Value: "v", Version: 3}) {
		t.Error(got)
	}
	m = sample(t)
	again, err := Of(m.Paths(), m.Sessions())
	if err != api.OK || !reflect.DeepEqual(again.Sessions(), m.Sessions()) || !reflect.DeepEqual(again.Paths(), m.Paths()) {
		t.Error(again, err)
	}
	if m, err := Of(nil, nil); m == nil || err != api.OK {
		t.Error(m, err)
	}
}

func TestOfWhatIsNone(t *testing.T) {
	good := []api.Entry{{Path: "/a", Version: 1}}
	for i, s := range [][]api.Session{
		{{Client: -1, Seq: 1}},
		{{Client: 1<<40 + 1, Seq: 1}},
		{{Client: 1, Seq: 0}},
		{{Client: 1, Seq: 1<<40 + 1}},
		{{Client: 1, Seq: 1}, {Client: 1, Seq: 2}},
		{{Client: 2, Seq: 1}, {Client: 1, Seq: 1}},
	} {
		if m, err := Of(good, s); m != nil || err != api.ErrArg {
			t.Error(i, m, err)
		}
	}
	for _, p := range [][]api.Entry{{{Path: "/", Version: 1}}, {{Path: "/a"}}, {{Path: "/a/b", Version: 1}}, {{Path: "/a", Version: 1, Value: strings.Repeat("v", 65)}}} {
		if m, err := Of(p, nil); m != nil || err != api.ErrArg {
			t.Error(p, m, err)
		}
	}
}

func TestNothingIsShared(t *testing.T) {
	names, sessions := []string{"a"}, sample(t).Sessions()
	m, _ := Of(nil, sessions)
	sessions[0].Reply.Names[0] = "changed"
	got := m.Apply(ask(9, 1, api.OpAdd, "", ""), api.Reply{Names: names})
	names[0] = "changed"
	got.Names[0] = "changed"
	m.Apply(ask(9, 1, api.OpAdd, "", ""), api.Reply{}).Names[0] = "changed"
	m.Apply(ask(0, 4, api.OpAdd, "", ""), api.Reply{}).Names[0] = "changed"
	m.Sessions()[0].Reply.Names[0] = "changed"
	m.Clone().Sessions()[0].Reply.Names[0] = "changed"
	if s := m.Sessions(); s[0].Reply.Names[0] != "a" || s[2].Reply.Names[0] != "a" {
		t.Error(s)
	}
}

func TestCloneIsItsOwn(t *testing.T) {
	m := sample(t)
	c := m.Clone()
	if !reflect.DeepEqual(c.Sessions(), m.Sessions()) || !reflect.DeepEqual(c.Paths(), m.Paths()) {
		t.Error(c.Sessions(), c.Paths())
	}
	c.Apply(ask(3, 1, api.OpSet, "/a", "c"), api.Reply{})
	m.Apply(ask(4, 1, api.OpCreate, "/b", "m"), api.Reply{})
	m.Apply(ask(0, 9, api.OpGet, "/a", ""), api.Reply{})
	if len(m.Paths()) != 2 || m.Paths()[0].Value != "v" || len(m.Sessions()) != 3 || m.Sessions()[1].Client != 4 {
		t.Error(m.Paths(), m.Sessions())
	}
	if len(c.Paths()) != 1 || c.Paths()[0].Value != "c" || c.Sessions()[0].Seq != 4 || c.Sessions()[1].Client != 3 {
		t.Error(c.Paths(), c.Sessions())
	}
}
