package world

import (
	"reflect"
	"slices"
	"testing"

	"syndic/api"
	"syndic/attr"
	"syndic/ballot"
	"syndic/config"
	"syndic/record"
	"syndic/session"
	"syndic/touch"
)

// The tops: what holds of the whole, by scripts that turn out in many ways, each the same again by its number.

// play is a world that a script of a number drives, and what its nodes said.
type play struct {
	t      *testing.T
	w      *World
	turn   uint32
	seqs   [12]int // of each client
	seen   int     // how many that were sent were looked at
	epochs [12]int // the greatest one of each node
	vows   map[vow]api.Ballot
	known  map[vow]struct{} // what was told as decided
}

// vow is of what a node said that it promised, or (as voted) that it voted for.
type vow struct {
	node  int
	id    api.ID
	voted bool
}

// played is a play of a configuration.
func played(t *testing.T, c api.Config, nodes int, number uint32) *play {
	return &play{t: t, w: made(t, c, nodes), turn: number * 2654435761, vows: map[vow]api.Ballot{}, known: map[vow]struct{}{}}
}

// next is a number below n.
func (p *play) next(n int) int {
	p.turn = p.turn*1664525 + 1013904223
	return int(p.turn>>8) % n
}

// do does an act, and looks at what came of it.
func (p *play) do(a api.Act) {
	p.w.Do(a)
	p.look()
}

// command is what a client asks next; members tells whether it may be of members.
func (p *play) command(members bool) api.Command {
	client := p.next(6)
	p.seqs[client]++
	path := []string{"/a", "/b", "/a/c", "/a/d", "/"}[p.next(5)]
	c := api.Command{Client: client, Seq: p.seqs[client], Op: api.Op(1 + p.next(6)), Path: path, Value: "v", Version: p.next(3)}
	if p.next(8) == 0 {
		c.Seq = max(1, c.Seq-1) // once more, or late
	}
	if members && p.next(5) == 0 {
		c.Op, c.A, c.B = api.OpAdd+api.Op(p.next(3)), p.next(len(p.w.places)), p.next(len(p.w.places))
	}
	return c
}

// look holds what nodes said, and know, against what they said ahead.
func (p *play) look() {
	for _, m := range p.w.sent[p.seen:] {
		p.said(m)
	}
	p.seen = len(p.w.sent)
	for n := range p.w.places {
		if !p.w.Up(n) {
			continue
		}
		if e := p.w.Node(n).Epoch(); e < p.epochs[n] {
			p.t.Fatalf("node %d goes back from epoch %d to %d", n, p.epochs[n], e)
		} else {
			p.epochs[n] = e
		}
	}
	for v, b := range p.vows {
		if !p.w.Up(v.node) || p.w.Node(v.node).Epoch() != v.id.Epoch {
			continue
		}
		x := p.w.Node(v.node).Book().Get(v.id)
		if !v.voted && ballot.Less(x.Promise, b) || v.voted && x.Status != api.StCommitted && ballot.Less(x.Voted, b) {
			p.t.Fatalf("%+v said %v, and has %+v", v, b, x)
		}
	}
	for v := range p.known {
		if p.w.Up(v.node) && p.w.Node(v.node).Epoch() == v.id.Epoch && p.w.Node(v.node).Book().Get(v.id).Status != api.StCommitted {
			p.t.Fatalf("%+v was told as decided", v)
		}
	}
}

// said keeps what a message says of who sent it; nobody votes in an epoch that it left.
func (p *play) said(m api.Msg) {
	switch m.Kind {
	case api.MsgPreOK, api.MsgAcceptOK, api.MsgPrepareOK:
		if m.ID.Epoch < p.epochs[m.From] || !p.w.Up(m.From) {
			p.t.Fatalf("a vote of an epoch that was left: %+v", m)
		}
		if conf := p.w.Node(m.From).Engine().Start().Config; conf.Epoch == m.ID.Epoch && !config.Has(conf, m.From) {
			p.t.Fatalf("a vote of one that is no member: %+v", m)
		}
		p.vows[vow{m.From, m.ID, false}] = ballot.Most(m.Ballot, p.vows[vow{m.From, m.ID, false}])
		if m.Kind != api.MsgPrepareOK {
			p.vows[vow{m.From, m.ID, true}] = ballot.Most(m.Ballot, p.vows[vow{m.From, m.ID, true}])
		}
	case api.MsgCommit:
		p.known[vow{node: m.From, id: m.ID}] = struct{}{}
	}
}

// chance does an act by chance: calls and deliveries often, troubles as often as told, of a hundred.
func (p *play) chance(troubles int, members bool) {
	n, flying := p.next(len(p.w.places)), max(p.w.Flying(), 1)
	if p.next(100) >= troubles {
		switch r := p.next(10); {
		case r == 0 && p.w.Flying() < 200:
			p.do(call(n, p.command(members)))
		case r == 1:
			p.do(act(api.ActTick, n))
		default:
			p.do(act(api.ActDeliver, p.next(flying)))
		}
		return
	}
	switch a := act(api.ActKind(2+p.next(7)), n); a.Kind {
	case api.ActDrop, api.ActDouble:
		p.do(act(a.Kind, p.next(flying)))
	case api.ActSpoil:
		p.do(api.Act{Kind: a.Kind, A: p.next(flying), B: p.next(60), C: 1 + p.next(255)})
	case api.ActCrash:
		p.do(api.Act{Kind: a.Kind, A: n, B: p.next(200) - 50})
	case api.ActRecover:
		p.do(api.Act{Kind: a.Kind, A: n, ID: p.someID(n)})
	case api.ActStart, api.ActTick:
		p.do(act(api.ActStart, n))
	}
}

// someID is an instance that node n may take over.
func (p *play) someID(n int) api.ID {
	if !p.w.Up(n) {
		return api.ID{}
	}
	if l := p.w.Node(n).Engine().Missing(); len(l) > 0 && p.next(2) == 0 {
		return l[p.next(len(l))]
	}
	return api.ID{Epoch: p.w.Node(n).Epoch(), Node: p.next(len(p.w.places)), No: p.next(4)}
}

// applied is what a node applied of an epoch, from its beginning on, till it or the node went.
type applied struct {
	node, epoch int
	steps       []api.Event
}

// runs are all such of a world.
func runs(events []api.Event) []*applied {
	var l []*applied
	last := map[int]*applied{}
	for _, e := range events {
		switch e.Kind {
		case api.EvApply:
			r := last[e.Node]
			if r == nil || r.epoch != e.ID.Epoch {
				r = &applied{node: e.Node, epoch: e.ID.Epoch}
				last[e.Node] = r
				l = append(l, r)
			}
			r.steps = append(r.steps, e)
		case api.EvSeal, api.EvCrash, api.EvStart:
			delete(last, e.Node)
		}
	}
	return l
}

// decidedOnce is T1: whoever knows an instance as decided knows it so.
func (p *play) decidedOnce() {
	was := map[api.ID]api.Event{}
	for _, e := range p.w.events {
		if e.Kind != api.EvCommit {
			continue
		}
		if x, ok := was[e.ID]; ok && (x.Cmd != e.Cmd || !attr.Same(x.Attr, e.Attr)) {
			p.t.Fatalf("decided twice: %+v, %+v", x, e)
		}
		was[e.ID] = e
	}
}

// oneOrder is T2: all do what matters in one order, and answer it as one directory would.
func (p *play) oneOrder() {
	all := runs(p.w.events)
	for _, a := range all {
		for _, b := range all {
			if a.epoch == b.epoch {
				p.sameOrder(a, b)
			}
		}
	}
	starts := map[int]*session.Machine{}
	first, _ := session.Of(nil, nil)
	starts[p.w.start.Config.Epoch] = first
	confs := map[int]api.Config{p.w.start.Config.Epoch: p.w.start.Config}
	slices.SortStableFunc(all, func(a, b *applied) int { return a.epoch - b.epoch })
	for _, r := range all {
		if starts[r.epoch] == nil {
			continue // nobody who sealed the epoch ahead told so ahead of a crash
		}
		m, conf := starts[r.epoch].Clone(), confs[r.epoch]
		for _, e := range r.steps {
			next, err := config.Change(confs[r.epoch], e.Cmd)
			if err == api.OK && session.Valid(e.Cmd) && !came(m, e.Cmd) {
				conf = next
			}
			if want := m.Apply(e.Cmd, api.Reply{Err: err}); !sameReply(want, e.Reply) {
				p.t.Fatalf("node %d answers %+v, not %+v", r.node, e, want)
			}
		}
		if conf.Epoch > r.epoch {
			had := starts[conf.Epoch]
			if had != nil && (!reflect.DeepEqual(had.Paths(), m.Paths()) || !reflect.DeepEqual(had.Sessions(), m.Sessions())) {
				p.t.Fatal("an epoch begins in two ways")
			}
			starts[conf.Epoch], confs[conf.Epoch] = m, conf
		}
	}
}

// came tells whether a client was answered that command, or a later one.
func came(m *session.Machine, c api.Command) bool {
	return slices.ContainsFunc(m.Sessions(), func(s api.Session) bool { return s.Client == c.Client && s.Seq >= c.Seq })
}

// sameOrder holds two runs of one epoch against each other: what is ahead of one in a, and matters to it, is so in b.
func (p *play) sameOrder(a, b *applied) {
	at := map[api.ID]int{}
	for i, e := range b.steps {
		at[e.ID] = i
	}
	for i, late := range a.steps {
		j, ok := at[late.ID]
		if !ok {
			continue
		}
		if !sameReply(late.Reply, b.steps[j].Reply) {
			p.t.Fatalf("two answers: %+v, %+v", late, b.steps[j])
		}
		for _, early := range a.steps[:i] {
			if k, ok := at[early.ID]; touch.Both(early.Cmd, late.Cmd) && (!ok || k > j) {
				p.t.Fatalf("nodes %d and %d: %+v ahead of %+v", a.node, b.node, early, late)
			}
		}
	}
}

func sameReply(a, b api.Reply) bool {
	return a.Err == b.Err && a.Value == b.Value && a.Version == b.Version && slices.Equal(a.Names, b.Names)
}

// oneChain is T4: each epoch has one configuration, and it follows the one ahead.
func (p *play) oneChain() {
	confs := map[int]api.Config{p.w.start.Config.Epoch: p.w.start.Config}
	greatest := p.w.start.Config.Epoch
	for _, e := range p.w.events {
		if e.Kind != api.EvSeal {
			continue
		}
		if c, ok := confs[e.Conf.Epoch]; ok && !config.Same(c, e.Conf) {
			p.t.Fatal("two of one epoch:", c, e.Conf)
		}
		confs[e.Conf.Epoch] = e.Conf
		greatest = max(greatest, e.Conf.Epoch)
	}
	for epoch := p.w.start.Config.Epoch; epoch < greatest; epoch++ {
		if a, b := confs[epoch], confs[epoch+1]; len(a.Nodes) > 0 && len(b.Nodes) > 0 && !config.Follows(a, b) {
			p.t.Fatal("no chain:", a, b)
		}
	}
	starts := map[int]api.Snap{}
	for n := range p.w.places {
		if p.w.Up(n) {
			s := p.w.Node(n).Engine().Start()
			if had, ok := starts[s.Config.Epoch]; ok && !record.Same(had, s) {
				p.t.Fatal("an epoch begins in two ways:", had, s)
			}
			starts[s.Config.Epoch] = s
		}
	}
}

// check is T1 to T4, of all that happened.
func (p *play) check() {
	p.decidedOnce()
	p.oneOrder()
	p.oneChain()
}

// heal lets all be up, and what was under way come to its end.
func (p *play) heal() {
	for n := range p.w.places {
		p.do(api.Act{Kind: api.ActCrash, A: n, B: -1})
		p.do(act(api.ActStart, n))
	}
	p.heals()
}

// heals lets all come, and takes over what others wait for, till nobody waits.
func (p *play) heals() {
	for range 40 {
		p.settles()
		busy := false
		for n := range p.w.places {
			p.do(act(api.ActTick, n))
			for _, x := range p.w.Node(n).Engine().Missing() {
				p.do(api.Act{Kind: api.ActRecover, A: n, ID: x})
				busy = true
			}
			p.settles()
		}
		if !busy {
			return
		}
	}
	p.t.Fatal("it does not heal")
}

// settles delivers till nothing flies.
func (p *play) settles() {
	for p.w.Flying() > 0 {
		p.do(act(api.ActDeliver, 0))
	}
}

// newest is the configuration of the greatest epoch.
func (p *play) newest() api.Config {
	var newest api.Config
	for n := range p.w.places {
		if c := p.w.Node(n).Engine().Start().Config; c.Epoch >= newest.Epoch {
			newest = c
		}
	}
	return newest
}

// answered asks each member, and holds that it is answered: anew, if meanwhile there are other members.
func (p *play) answered() {
	from := len(p.w.events)
	waits := func(n int) bool {
		reply := func(e api.Event) bool { return e.Kind == api.EvReply && e.Node == n && e.Cmd.Client == 100+n }
		return !slices.ContainsFunc(p.w.events[from:], reply)
	}
	for range 10 {
		nodes := slices.DeleteFunc(p.newest().Nodes, func(n int) bool { return !waits(n) })
		if len(nodes) == 0 {
			return
		}
		for _, n := range nodes {
			p.do(call(n, api.Command{Client: 100 + n, Seq: 1, Op: api.OpList, Path: "/"}))
			p.heals()
		}
	}
	p.t.Fatal("a member is not answered:", p.newest())
}

func TestWithTroubles(t *testing.T) {
	for number := range uint32(60) {
		p := played(t, three, 3, number)
		for range 400 {
			p.chance(25, false)
		}
		p.check()
		p.heal()
		p.answered()
		p.check()
	}
}

func TestWithTroublesAndMembers(t *testing.T) {
	for number := range uint32(60) {
		c := api.Config{Nodes: []int{0, 1, 2}}
		if number%3 == 0 {
			c.Nodes = []int{0, 1, 2, 3, 5}
		}
		p := played(t, c, 6, 1000+number)
		for range 500 {
			p.chance(20, true)
		}
		p.check()
		p.heal()
		p.answered()
		p.check()
	}
}

func TestWithoutTroubles(t *testing.T) {
	for number := range uint32(40) {
		p := played(t, three, 4, 2000+number)
		calls := map[api.Command]int{}
		for range 150 {
			switch r := p.next(4); {
			case r == 0 && len(calls) < 25:
				c := p.command(false)
				c.Seq, c.Client = 1, len(calls)
				n := p.next(3)
				calls[c] = n
				p.do(call(n, c))
			default:
				p.do(act(api.ActDeliver, p.next(max(p.w.Flying(), 1))))
			}
		}
		for p.w.Flying() > 0 {
			p.do(act(api.ActDeliver, p.next(p.w.Flying())))
		}
		p.check()
		p.allAnswered(calls)
	}
}

// allAnswered is T5: each command was answered once, where it was called, and applied by each member.
func (p *play) allAnswered(calls map[api.Command]int) {
	replies, times := map[api.Command]int{}, map[api.Command]int{}
	for _, e := range p.w.events {
		if e.Kind == api.EvReply {
			replies[e.Cmd]++
			if e.Node != calls[e.Cmd] {
				p.t.Fatalf("another one answers: %+v", e)
			}
		}
		if e.Kind == api.EvApply {
			times[e.Cmd]++
		}
	}
	for c := range calls {
		if replies[c] != 1 || times[c] != 3 {
			p.t.Fatalf("%+v: answered %d times, applied %d times", c, replies[c], times[c])
		}
	}
}

// Where one of three, or two of five, are not up, those that are wait no longer, and all is answered.
func TestWhereEnoughAreUp(t *testing.T) {
	for number := range uint32(20) {
		c, down := three, 1
		if number%2 == 0 {
			c, down = api.Config{Nodes: []int{0, 1, 2, 3, 4}}, 2
		}
		p := played(t, c, len(c.Nodes), 3000+number)
		for n := range down {
			p.do(api.Act{Kind: api.ActCrash, A: n, B: -1})
		}
		calls := map[api.Command]int{}
		for i := range 12 {
			cmd := p.command(false)
			cmd.Client, cmd.Seq = i, 1
			n := down + p.next(len(c.Nodes)-down)
			calls[cmd] = n
			p.do(call(n, cmd))
		}
		for p.w.Flying() > 0 {
			p.do(act(api.ActDeliver, p.next(p.w.Flying())))
		}
		for n := range c.Nodes {
			p.do(act(api.ActTick, n))
		}
		for p.w.Flying() > 0 {
			p.do(act(api.ActDeliver, p.next(p.w.Flying())))
		}
		for cmd, n := range calls {
			reply := func(e api.Event) bool { return e.Kind == api.EvReply && e.Node == n && e.Cmd == cmd }
			if !slices.ContainsFunc(p.w.events, reply) {
				t.Fatalf("%d: no answer to %+v", number, cmd)
			}
		}
		p.check()
	}
}

// What a node said ahead of a crash holds behind it, wherever its disk breaks off.
func TestSaidAheadOfACrash(t *testing.T) {
	for keep := -1; keep < 120; keep += 3 {
		p := played(t, three, 3, 1)
		p.do(call(0, create(1, "/a")))
		p.do(act(api.ActDeliver, 0))
		p.do(api.Act{Kind: api.ActCrash, A: 1, B: keep})
		p.do(call(1, create(2, "/a")))
		p.do(act(api.ActStart, 1))
		if x := p.w.Node(1).Book().Get(id(0, 0)); x.Status != api.StPre || x.Cmd != create(1, "/a") {
			t.Fatalf("%d: %+v", keep, x)
		}
		p.do(api.Act{Kind: api.ActCrash, A: 0, B: -1})
		p.do(api.Act{Kind: api.ActRecover, A: 1, ID: id(0, 0)})
		p.settles()
		p.check()
		if x := p.w.Node(2).Book().Get(id(0, 0)); x.Status != api.StCommitted || x.Cmd != create(1, "/a") {
			t.Fatalf("%d: %+v", keep, x)
		}
	}
}
