package graph

import (
	"slices"
	"strconv"
	"strings"
	"testing"

	"syndic/api"
	"syndic/ids"
)

// id is the instance of a letter: a has number 0, b has 1, and so on.
func id(c byte) api.ID { return api.ID{Epoch: 1, Node: 1, No: int(c - 'a')} }

// idsOf are the instances of letters.
func idsOf(s string) []api.ID {
	var l []api.ID
	for i := range len(s) {
		l = append(l, id(s[i]))
	}
	return l
}

// nodes are told as `a3 b,c` and so on: a letter, its Seq, and what it leads to.
func nodes(t *testing.T, text string) []Node {
	var l []Node
	for _, s := range strings.Split(text, "|") {
		s = strings.TrimSpace(s)
		if s == "" {
			continue
		}
		head, deps, _ := strings.Cut(s, " ")
		seq, err := strconv.Atoi(head[1:])
		if err != nil {
			t.Fatal(err)
		}
		l = append(l, Node{id(head[0]), api.Attr{Seq: seq, Deps: idsOf(deps)}})
	}
	return l
}

// letters is instances as a text.
func letters(l []api.ID) string {
	s := ""
	for _, x := range l {
		s += string([]byte{byte('a' + x.No)})
	}
	return s
}

// groups is groups as a text.
func groups(l [][]api.ID) string {
	var s []string
	for _, g := range l {
		s = append(s, letters(g))
	}
	return strings.Join(s, " ")
}

func TestValid(t *testing.T) {
	many := make([]Node, 1025)
	for i := range many {
		many[i].ID.No = i
	}
	if !Valid(nil) || !Valid(many[:1024]) || Valid(many) {
		t.Error("how many")
	}
	if !Valid(nodes(t, "a1 zz|b1 ab")) || Valid(nodes(t, "a1|b1|a2")) || Valid([]Node{{}, {}}) {
		t.Error("of one ID")
	}
	for _, l := range [][]Node{many, nodes(t, "a1 b|b1 a|a2")} {
		if len(Reach(l, l[0].ID)) != 0 || len(Ready(l, nil)) != 0 || len(Order(l, nil)) != 0 {
			t.Error("of nodes that can't be")
		}
	}
}

func TestReach(t *testing.T) {
	l := nodes(t, "a1 bc|b1 dz|c1|d1 b|e1 e|f1 a|g1 zza")
	for from, want := range map[byte]string{'a': "bcdz", 'b': "bdz", 'c': "", 'd': "bdz", 'e': "e", 'f': "abcdz", 'g': "abcdz", 'z': "", 'y': ""} {
		if got := letters(Reach(l, id(from))); got != want {
			t.Errorf("%c: %s", from, got)
		}
	}
}

func TestReady(t *testing.T) {
	for _, c := range []struct{ nodes, done, want string }{
		{"", "", ""},
		{"", "abc", ""},
		{"c1|b1|a1", "", "abc"},
		{"a1 b|b1 c|c1", "", "abc"},
		{"a1 b|b1 z|c1", "", "c"},
		{"a1 b|b1 z|c1", "z", "abc"},
		{"a1 b|b1 z|c1", "b", "ac"},
		{"a1 b|b1 z|c1", "ac", ""},
		{"a1 b|b1 a|c1 a", "", "abc"},
		{"a1 b|b1 az|c1 a|d1", "", "d"},
		{"a1 a|b1 bz", "", "a"},
		{"a1 bbzz|b1", "z", "ab"},
	} {
		if got := letters(Ready(nodes(t, c.nodes), idsOf(c.done))); got != c.want {
			t.Error(c, got)
		}
	}
}

func TestOrder(t *testing.T) {
	for _, c := range []struct{ nodes, done, want string }{
		{"", "", ""},
		{"c1|b2|a3", "", "a b c"},
		{"a1 b|b2 a|c1 a", "", "ab c"},
		{"a2 b|b1 a|c1 a", "", "ba c"},
		{"a2 b|b2 a|c1 a", "", "ab c"},
		{"a1 c|b1|c1", "", "b c a"},
		{"a1 z|b1|c1", "", "b c"},
		{"a1 z|b1|c1", "z", "a b c"},
		{"a1 b|b1 c|c1 a|d1 c|e1", "", "abc d e"},
		{"a9 b|b8 c|c7 a|d1 e|e1", "", "cba e d"},
		{"a1 b|b1 a|c1", "b", "a c"},
		{"a1 b|b1 c|c1 a", "c", "b a"},
		{"a1 a|b1", "", "a b"},
		{"b1 d|d1 b|c1|a1 c|e1 ab", "", "bd c a e"},
		{"b1 e|e1 b|c1|d1", "", "be c d"},
		{"a1 dd|d1|b1 a|c1 a", "", "d a b c"},
		{"a1 e|b1 d|c1|d1|e1", "", "c d b e a"},
	} {
		l := nodes(t, c.nodes)
		for range 3 {
			if got := groups(Order(l, idsOf(c.done))); got != c.want {
				t.Error(c, got)
			}
			slices.Reverse(l)
		}
	}
}

func TestFlat(t *testing.T) {
	if letters(Flat([][]api.ID{idsOf("cb"), nil, idsOf("a"), idsOf("b")})) != "cbab" || len(Flat(nil)) != 0 {
		t.Error("flat")
	}
}

// leads tells whether x leads to y by nodes that are not done, as the document tells it.
func leads(l []Node, done []api.ID, x, y api.ID) bool {
	rest := slices.DeleteFunc(slices.Clone(l), func(n Node) bool { return ids.Has(done, n.ID) })
	return ids.Has(Reach(rest, x), y)
}

// check holds the groups against what the document tells of them.
func check(t *testing.T, l []Node, done []api.ID) {
	order := Order(l, done)
	flat := Flat(order)
	if !ids.Same(flat, Ready(l, done)) || len(flat) != len(ids.Clean(flat)) {
		t.Fatal("not all that are ready, or not once:", letters(flat))
	}
	group := map[api.ID]int{}
	for i, g := range order {
		for _, x := range g {
			group[x] = i
		}
	}
	for i, x := range flat {
		for j, y := range flat {
			both := leads(l, done, x, y) && leads(l, done, y, x)
			if x != y && (group[x] == group[y]) != both {
				t.Fatal("groups:", groups(order))
			}
			if leads(l, done, x, y) && !both && i < j {
				t.Fatal("behind:", groups(order))
			}
		}
	}
	over := slices.Clone(done)
	for i, g := range order {
		for _, later := range order[i+1:] {
			free := func(y api.ID) bool {
				return ids.Has(over, y) || ids.Has(later, y)
			}
			may := !slices.ContainsFunc(later, func(x api.ID) bool {
				return slices.ContainsFunc(depsOf(l, x), func(y api.ID) bool { return !free(y) })
			})
			if may && ids.Less(ids.Clean(later)[0], ids.Clean(g)[0]) {
				t.Fatal("another one comes next:", groups(order))
			}
		}
		over = append(over, g...)
	}
}

// depsOf is what a node leads to.
func depsOf(l []Node, x api.ID) []api.ID {
	for _, n := range l {
		if n.ID == x {
			return n.Attr.Deps
		}
	}
	return nil
}

func TestOrderOfManyGraphs(t *testing.T) {
	turn := uint32(7)
	next := func(n int) int {
		turn = turn*1664525 + 1013904223
		return int(turn>>8) % n
	}
	for range 3000 {
		var l []Node
		for _, i := range []int{4, 0, 6, 2, 5, 1, 3}[:next(8)] {
			n := Node{ID: id(byte('a' + i)), Attr: api.Attr{Seq: next(3)}}
			for range next(4) {
				n.Attr.Deps = append(n.Attr.Deps, id(byte('a'+next(8))))
			}
			l = append(l, n)
		}
		var done []api.ID
		for range next(4) {
			done = append(done, id(byte('a'+next(9))))
		}
		check(t, l, done)
	}
}

// Of two that are linked just one order comes out, whatever else there is.
func TestLinkedComeInOneOrder(t *testing.T) {
	small := nodes(t, "a5 b|b4 a|c9 ab|d1 c")
	big := append(nodes(t, "f1|e1 abf|g3 z|h1 gd"), small...)
	all := letters(Flat(Order(big, nil)))
	seen := ""
	for _, c := range all {
		if strings.ContainsRune("abcd", c) {
			seen += string(c)
		}
	}
	if seen != letters(Flat(Order(small, nil))) {
		t.Error(all)
	}
}

// A long chain, and a great ring, are as many steps as they have nodes.
func TestLargest(t *testing.T) {
	var chain, ring []Node
	var all []api.ID
	for i := range 1024 {
		x := api.ID{No: i}
		all = append(all, x)
		chain = append(chain, Node{x, api.Attr{Deps: slices.Clone(all)}})
		ring = append(ring, Node{x, api.Attr{Seq: -i, Deps: []api.ID{{No: (i + 1) % 1024}}}})
	}
	if order := Order(chain, nil); len(order) != 1024 || !slices.Equal(Flat(order), all) {
		t.Error("chain:", len(order))
	}
	if got := Reach(ring, all[5]); !slices.Equal(got, all) {
		t.Error("ring:", len(got))
	}
	slices.Reverse(all)
	if order := Order(ring, nil); len(order) != 1 || !slices.Equal(order[0], all) {
		t.Error("ring:", len(order))
	}
}

func TestNothingIsShared(t *testing.T) {
	l, done := nodes(t, "a1 bc|b1 c|c1"), idsOf("c")
	Reach(l, id('a'))[0] = id('x')
	Ready(l, done)[0] = id('x')
	order := Order(l, done)
	flat := Flat(order)
	flat[0] = id('x')
	if groups(order) != "b a" || letters(l[0].Attr.Deps) != "bc" || letters(done) != "c" {
		t.Error(groups(order), l, done)
	}
}
