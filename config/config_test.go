package config

import (
	"math"
	"slices"
	"testing"

	"syndic/api"
)

// conf is a configuration.
func conf(epoch int, nodes ...int) api.Config { return api.Config{Epoch: epoch, Nodes: nodes} }

// member is a command of members.
func member(op api.Op, a, b int) api.Command {
	return api.Command{Client: -1, Op: op, Path: "?", A: a, B: b}
}

func TestValid(t *testing.T) {
	for _, c := range []api.Config{conf(0, 0), conf(1<<20, 31), conf(5, 0, 1, 2, 3, 4, 5, 31)} {
		if !Valid(c) {
			t.Error(c)
		}
	}
	for _, c := range []api.Config{
		{}, conf(-1, 0), conf(1<<20+1, 0), conf(0, -1), conf(0, 32), conf(0, 1, 1), conf(0, 2, 1), conf(0, 0, 32), conf(0, math.MinInt, 0),
		conf(0, 0, 1, 2, 3, 4, 5, 6, 7), conf(math.MaxInt, 0), conf(math.MinInt, 0),
	} {
		if Valid(c) {
			t.Error(c)
		}
	}
}

func TestHasAndSame(t *testing.T) {
	c := conf(3, 1, 4)
	if !Has(c, 1) || !Has(c, 4) || Has(c, 0) || Has(c, 2) || Has(c, -1) || Has(api.Config{}, 0) {
		t.Error("has")
	}
	if !Same(c, conf(3, 1, 4)) || Same(c, conf(4, 1, 4)) || Same(c, conf(3, 1)) || Same(c, conf(3, 1, 5)) || Same(c, conf(3, 4, 1)) {
		t.Error("same")
	}
	if !Same(api.Config{}, conf(0)) {
		t.Error("same without nodes")
	}
}

func TestChange(t *testing.T) {
	full := conf(0, 0, 1, 2, 3, 4, 5, 31)
	for _, c := range []struct {
		from api.Config
		x    api.Command
		want api.Config
		err  api.Errno
	}{
		{conf(0, 1, 2, 3), member(api.OpReplace, 2, 7), conf(1, 1, 3, 7), api.OK},
		{conf(0, 1, 2, 3), member(api.OpReplace, 3, 0), conf(1, 0, 1, 2), api.OK},
		{conf(0, 1, 2, 3), member(api.OpReplace, 4, -1), conf(0), api.ErrNone},
		{conf(0, 1, 2, 3), member(api.OpReplace, 2, 32), conf(0), api.ErrArg},
		{conf(0, 1, 2, 3), member(api.OpReplace, 2, -1), conf(0), api.ErrArg},
		{conf(0, 1, 2, 3), member(api.OpReplace, 2, 3), conf(0), api.ErrExists},
		{conf(0, 1, 2, 3), member(api.OpReplace, 2, 2), conf(0), api.ErrExists},
		{conf(7, 4), member(api.OpReplace, 4, 31), conf(8, 31), api.OK},
		{full, member(api.OpReplace, 0, 30), conf(1, 1, 2, 3, 4, 5, 30, 31), api.OK},
		{conf(0, 1, 3), member(api.OpAdd, 2, 9), conf(1, 1, 2, 3), api.OK},
		{conf(0, 1, 3), member(api.OpAdd, 0, 9), conf(1, 0, 1, 3), api.OK},
		{conf(1<<20-1, 1, 3), member(api.OpAdd, 31, 9), conf(1<<20, 1, 3, 31), api.OK},
		{conf(0, 1, 3), member(api.OpAdd, 32, 9), conf(0), api.ErrArg},
		{conf(0, 1, 3), member(api.OpAdd, -1, 9), conf(0), api.ErrArg},
		{conf(0, 1, 3), member(api.OpAdd, 3, 9), conf(0), api.ErrExists},
		{full, member(api.OpAdd, 31, 0), conf(0), api.ErrExists},
		{full, member(api.OpAdd, 6, 0), conf(0), api.ErrFull},
		{full, member(api.OpAdd, 32, 0), conf(0), api.ErrArg},
		{conf(0, 1, 2, 3), member(api.OpRemove, 1, 9), conf(1, 2, 3), api.OK},
		{conf(0, 1, 2, 3), member(api.OpRemove, 3, 9), conf(1, 1, 2), api.OK},
		{conf(0, 1, 2, 3), member(api.OpRemove, 0, 9), conf(0), api.ErrNone},
		{conf(0, 1), member(api.OpRemove, 1, 9), conf(0), api.ErrBusy},
		{conf(0, 1), member(api.OpRemove, 2, 9), conf(0), api.ErrNone},
		{conf(1<<20, 1, 3), member(api.OpAdd, 2, 9), conf(0), api.ErrArg},
		{conf(1<<20, 1, 3), member(api.OpRemove, 9, 9), conf(0), api.ErrArg},
		{conf(0, 3, 1), member(api.OpRemove, 9, 9), conf(0), api.ErrArg},
		{conf(-1, 1), member(api.OpAdd, 2, 9), conf(0), api.ErrArg},
		{api.Config{}, member(api.OpAdd, 2, 9), conf(0), api.ErrArg},
		{conf(0, 1, 3), member(api.OpNone, 2, 9), conf(0), api.ErrArg},
		{conf(0, 1, 3), member(api.OpCreate, 2, 9), conf(0), api.ErrArg},
		{conf(0, 1, 3), member(10, 2, 9), conf(0), api.ErrArg},
		{conf(0, 1, 3), member(math.MinInt, 2, 9), conf(0), api.ErrArg},
	} {
		before := Clone(c.from)
		got, err := Change(c.from, c.x)
		if !Same(got, c.want) || err != c.err {
			t.Errorf("%v %+v: %v, %v", c.from, c.x, got, err)
		}
		if !Same(c.from, before) {
			t.Error("the argument was changed:", before, c.from)
		}
		if err == api.OK && (!Follows(c.from, got) || !Valid(got)) {
			t.Error("it does not follow:", c.from, got)
		}
	}
}

func TestAnswersAreTheCallersOwn(t *testing.T) {
	nodes := make([]int, 3, 10)
	copy(nodes, []int{1, 2, 3})
	want := slices.Clone(nodes)
	for _, x := range []api.Command{member(api.OpAdd, 0, 0), member(api.OpAdd, 9, 0), member(api.OpRemove, 3, 0), member(api.OpRemove, 1, 0), member(api.OpReplace, 3, 4), member(api.OpReplace, 1, 0)} {
		got, err := Change(api.Config{Nodes: nodes}, x)
		if err != api.OK {
			t.Fatal(x, err)
		}
		for i := range got.Nodes {
			got.Nodes[i] = 77
		}
		if !slices.Equal(nodes, want) || nodes[:4][3] != 0 {
			t.Fatal(x, nodes[:4])
		}
	}
	c := Clone(api.Config{Epoch: 4, Nodes: nodes})
	c.Nodes[0] = 9
	if c.Epoch != 4 || nodes[0] != 1 {
		t.Error(c, nodes)
	}
}

func TestFollows(t *testing.T) {
	for _, c := range []struct {
		a, b api.Config
		want bool
	}{
		{conf(0, 1, 2), conf(1, 1, 2, 3), true},
		{conf(0, 1, 2), conf(1, 2), true},
		{conf(0, 1, 2), conf(1, 2, 3), true},
		{conf(0, 1), conf(1, 0), true},
		{conf(1<<20-1, 1), conf(1<<20, 0), true},
		{conf(0, 1, 2), conf(1, 1, 2), false},
		{conf(0, 1, 2), conf(0, 1, 2, 3), false},
		{conf(0, 1, 2), conf(2, 1, 2, 3), false},
		{conf(1, 1, 2), conf(0, 1), false},
		{conf(0, 1, 2), conf(1, 3, 4), false},
		{conf(0, 1, 2), conf(1, 1, 2, 3, 4), false},
		{conf(0, 1, 2, 3), conf(1, 1), false},
		{conf(0, 1, 2, 3), conf(1, 1, 4), false},
		{conf(0, 1), conf(1), false},
		{conf(0), conf(1, 1), false},
		{conf(0, 1), conf(1, 1, 32), false},
		{conf(0, 1), conf(1, 2, 1), false},
		{conf(-1, 1), conf(0, 1, 2), false},
		{conf(1<<20, 1), conf(1<<20+1, 1, 2), false},
	} {
		if Follows(c.a, c.b) != c.want {
			t.Error(c.a, c.b)
		}
	}
}

// One follows by just those commands that Change takes.
func TestFollowsByACommand(t *testing.T) {
	var all []api.Config
	for bits := range 1 << 5 {
		var nodes []int
		for i := range 5 {
			if bits>>i&1 == 1 {
				nodes = append(nodes, i)
			}
		}
		all = append(all, conf(0, nodes...))
	}
	for _, a := range all {
		made := []api.Config{}
		for op := api.OpAdd; op <= api.OpReplace; op++ {
			for i := range 25 {
				if c, err := Change(a, member(op, i/5, i%5)); err == api.OK {
					made = append(made, c)
				}
			}
		}
		for _, b := range all {
			b.Epoch = 1
			if Follows(a, b) != slices.ContainsFunc(made, func(c api.Config) bool { return Same(b, c) }) {
				t.Fatal(a, b)
			}
		}
	}
}
