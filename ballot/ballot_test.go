package ballot

import (
	"math"
	"testing"

	"syndic/api"
)

func TestLessAndMost(t *testing.T) {
	rising := []api.Ballot{{No: -1, Node: 5}, {No: 0, Node: -1}, {}, {Node: 1}, {Node: 2}, {No: 1}, {No: 1, Node: 2}, {No: 2, Node: 1}, {No: math.MaxInt}}
	for i, a := range rising {
		for j, b := range rising {
			if Less(a, b) != (i < j) {
				t.Error(a, b)
			}
			if Most(a, b) != rising[max(i, j)] {
				t.Error(a, b, Most(a, b))
			}
		}
	}
}

func TestFirstAndNext(t *testing.T) {
	if b := First(api.ID{Epoch: 3, Node: 4, No: 5}); b != (api.Ballot{No: 0, Node: 4}) {
		t.Error(b)
	}
	if b := Next(api.Ballot{No: 7, Node: 9}, 2); b != (api.Ballot{No: 8, Node: 2}) {
		t.Error(b)
	}
	if b := Next(api.Ballot{No: math.MaxInt}, 0); b.No != math.MinInt {
		t.Error("numbers go round:", b)
	}
	for _, b := range []api.Ballot{{}, {No: 3, Node: 31}} {
		if !Less(b, Next(b, 0)) {
			t.Error("the next one is not greater:", b)
		}
	}
}

func TestValid(t *testing.T) {
	for _, b := range []api.Ballot{{}, {No: 1 << 40, Node: 31}, {No: 0, Node: 31}, {No: 1 << 40}} {
		if !Valid(b) {
			t.Error(b)
		}
	}
	for _, b := range []api.Ballot{{No: -1}, {No: 1<<40 + 1}, {Node: -1}, {Node: 32}, {No: math.MinInt}, {Node: math.MaxInt}} {
		if Valid(b) {
			t.Error(b)
		}
	}
}

func TestQuorum(t *testing.T) {
	for n, want := range map[int]int{math.MinInt: 0, -1: 0, 0: 0, 1: 1, 2: 2, 3: 2, 4: 3, 5: 3, 6: 4, 7: 4, math.MaxInt: 1 << 62} {
		if Quorum(n) != want {
			t.Error(n, Quorum(n))
		}
	}
}

func TestEnoughAndAll(t *testing.T) {
	three, four := api.Config{Nodes: []int{1, 2, 3}}, api.Config{Epoch: 5, Nodes: []int{1, 2, 3, 9}}
	for _, c := range []struct {
		conf        api.Config
		who         []int
		enough, all bool
	}{
		{three, nil, false, false},
		{three, []int{2}, false, false},
		{three, []int{2, 2, 2}, false, false},
		{three, []int{2, 4, 5}, false, false},
		{three, []int{3, 1}, true, false},
		{three, []int{3, 1, 1, 7}, true, false},
		{three, []int{3, 1, 2}, true, true},
		{three, []int{0, 3, 1, 2, 4}, true, true},
		{four, []int{1, 9}, false, false},
		{four, []int{1, 9, 2}, true, false},
		{four, []int{1, 9, 2, 3}, true, true},
		{api.Config{Nodes: []int{4}}, []int{4}, true, true},
		{api.Config{Nodes: []int{4}}, []int{3}, false, false},
		{api.Config{}, []int{0, 1}, true, false}, // no nodes: none of them are enough
	} {
		if Enough(c.conf, c.who) != c.enough || All(c.conf, c.who) != c.all {
			t.Error(c.conf, c.who, Enough(c.conf, c.who), All(c.conf, c.who))
		}
	}
}

// Of all sets of nodes: two that are enough have one in common.
func TestTwoThatAreEnough(t *testing.T) {
	pick := func(bits, n int) []int {
		var l []int
		for i := range n {
			if bits>>i&1 == 1 {
				l = append(l, i)
			}
		}
		return l
	}
	for n := 1; n <= api.MaxNodes; n++ {
		c := api.Config{Nodes: pick(1<<n-1, n)}
		for a := range 1 << n {
			for b := range 1 << n {
				if a&b == 0 && Enough(c, pick(a, n)) && Enough(c, pick(b, n)) {
					t.Fatal(n, pick(a, n), pick(b, n))
				}
			}
		}
	}
}
