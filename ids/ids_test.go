package ids

import (
	"math"
	"slices"
	"testing"

	"syndic/api"
)

// id is an instance as Show tells it: epoch, node, number.
func id(epoch, node, no int) api.ID { return api.ID{Epoch: epoch, Node: node, No: no} }

// some are instances, rising: each differs from the one ahead in a way of its own.
var some = []api.ID{
	id(-1, 9, 9), id(0, 0, 0), id(0, 1, 0), id(0, 2, 0), id(0, 0, 1), id(0, 1, 1),
	id(0, -1, 2), id(0, 0, 2), id(1, 0, 0), id(1, 1, 0), id(1, 0, 7), id(2, 0, -3),
}

func TestLess(t *testing.T) {
	for i, a := range some {
		for j, b := range some {
			if Less(a, b) != (i < j) {
				t.Error(a, b)
			}
		}
	}
}

func TestValid(t *testing.T) {
	for _, x := range []api.ID{{}, id(1<<20, 31, 1<<40), id(0, 31, 0), id(1<<20, 0, 0), id(0, 0, 1<<40)} {
		if !Valid(x) {
			t.Error(x)
		}
	}
	for _, x := range []api.ID{id(-1, 0, 0), id(1<<20+1, 0, 0), id(0, -1, 0), id(0, 32, 0), id(0, 0, -1), id(0, 0, 1<<40+1), id(math.MinInt, 0, 0), id(0, 0, math.MaxInt)} {
		if Valid(x) {
			t.Error(x)
		}
	}
}

// mixed is all of some, turned round, the first ones twice.
func mixed() []api.ID {
	l := slices.Clone(some)
	slices.Reverse(l)
	return append(l, some[:5]...)
}

func TestClean(t *testing.T) {
	l := mixed()
	got := Clean(l)
	if !slices.Equal(got, some) {
		t.Error(got)
	}
	if !slices.Equal(l, mixed()) {
		t.Error("the argument was changed")
	}
	if got[0] = id(5, 5, 5); !slices.Equal(l, mixed()) {
		t.Error("the answer is the argument's memory")
	}
	if len(Clean(nil)) != 0 {
		t.Error("a set of nothing")
	}
	set := slices.Clone(some)
	if Clean(set)[0] = id(5, 5, 5); !slices.Equal(set, some) {
		t.Error("the answer is the memory of an argument that is a set already")
	}
}

func TestRight(t *testing.T) {
	for _, l := range [][]api.ID{nil, some[:1], some[:2], some} {
		if !Right(l) {
			t.Error(l)
		}
	}
	for _, l := range [][]api.ID{mixed(), {some[0], some[0]}, {some[3], some[2]}, {some[0], some[1], some[1]}} {
		if Right(l) {
			t.Error(l)
		}
	}
}

func TestHas(t *testing.T) {
	for _, x := range some {
		if !Has(mixed(), x) {
			t.Error(x)
		}
	}
	if Has(mixed(), id(9, 9, 9)) || Has(nil, api.ID{}) {
		t.Error("it has what is not there")
	}
}

func TestUnionAndLess2(t *testing.T) {
	for i := range some {
		for j := range some {
			a, b := mixed()[i:], mixed()[:j]
			u, l := Union(a, b), Less2(a, b)
			if !Right(u) || !Right(l) {
				t.Fatal("no sets:", u, l)
			}
			for _, x := range some {
				if Has(u, x) != (Has(a, x) || Has(b, x)) || Has(l, x) != (Has(a, x) && !Has(b, x)) {
					t.Fatal(a, b, u, l)
				}
			}
			if !slices.Equal(u, Union(b, a)) || !slices.Equal(u, Clean(u)) {
				t.Error("unions in another order:", a, b)
			}
		}
	}
	if len(Union(nil, nil)) != 0 || len(Less2(nil, some)) != 0 || !slices.Equal(Less2(some, nil), some) {
		t.Error("of nothing")
	}
}

func TestUnionsOfThree(t *testing.T) {
	a, b, c := some[:4], some[2:7], mixed()[:3]
	want := Union(Union(a, b), c)
	if !slices.Equal(want, Union(a, Union(c, b))) || !slices.Equal(want, Union(Union(c, a), b)) {
		t.Error("unions in another order")
	}
}

func TestSame(t *testing.T) {
	if !Same(some, mixed()) || !Same(mixed(), some) || !Same(nil, []api.ID{}) {
		t.Error("the same ones")
	}
	if Same(some, some[1:]) || Same(some[1:], some) || Same(nil, some) || Same(some[:2], some[1:3]) {
		t.Error("other ones")
	}
}

func TestShow(t *testing.T) {
	for want, x := range map[string]api.ID{
		"1.2.3":                          id(1, 2, 3),
		"0.0.0":                          {},
		"-1.-22.-333":                    id(-1, -22, -333),
		"1048576.31.9223372036854775807": id(1<<20, 31, math.MaxInt),
		"0.0.-9223372036854775808":       id(0, 0, math.MinInt),
	} {
		if Show(x) != want {
			t.Error(Show(x), want)
		}
	}
}
