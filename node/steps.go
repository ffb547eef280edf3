package node

import (
	"slices"

	"syndic/accept"
	"syndic/api"
	"syndic/apply"
	"syndic/clone"
	"syndic/code"
	"syndic/config"
	"syndic/lead"
)

// begin lets a node stand where an engine's epoch begins.
func (n *Node) begin(engine *apply.Engine, c api.Config) {
	n.conf, n.engine, n.book = config.Clone(c), engine, accept.New(n.me, c)
	n.leads, n.next = map[api.ID]*lead.Lead{}, 0
}

// later puts off what comes behind all that is being done.
func (n *Node) later(f func()) { n.todo = append(n.todo, f) }

// work does all that was put off.
func (n *Node) work() {
	for len(n.todo) > 0 {
		f := n.todo[0]
		n.todo = n.todo[1:]
		f()
	}
}

// did is what it did, when all that was put off is done.
func (n *Node) did() Out {
	n.work()
	out := n.out
	n.out = Out{}
	return out
}

// send sends a message, from this node.
func (n *Node) send(m api.Msg) {
	m.From = n.me
	n.out.Msgs = append(n.out.Msgs, m)
}

// sendSnap tells another node where an epoch begins.
func (n *Node) sendSnap(to int, s api.Snap) {
	n.send(api.Msg{Kind: api.MsgSnap, To: to, Snap: clone.Snap(s)})
}

// tell tells what happened to this node.
func (n *Node) tell(e api.Event) {
	e.Node = n.me
	n.out.Events = append(n.out.Events, clone.Event(e))
}

// keep lets a record last.
func (n *Node) keep(r code.Record) { n.out.Records = append(n.out.Records, r) }

// hear lets the book hear a message; what it answers is not sent yet.
func (n *Node) hear(m api.Msg) []api.Msg {
	before := n.book.Get(m.ID)
	answers := n.book.Hear(m)
	x := n.book.Get(m.ID)
	if !same(before, x) {
		n.keep(code.Record{ID: m.ID, Inst: clone.Inst(x)})
	}
	if x.Status == api.StCommitted && before.Status != api.StCommitted {
		n.tell(api.Event{Kind: api.EvCommit, ID: m.ID, Cmd: x.Cmd, Attr: x.Attr})
		n.engine.Decide(m.ID, x.Cmd, x.Attr)
		n.do()
	}
	return answers
}

// do does what the engine can do, and goes on to the next epoch, if this one is sealed.
func (n *Node) do() {
	for _, s := range n.engine.Run() {
		n.tell(api.Event{Kind: api.EvApply, ID: s.ID, Cmd: s.Cmd, Reply: s.Reply})
		if s.ID.Node == n.me {
			n.tell(api.Event{Kind: api.EvReply, ID: s.ID, Cmd: s.Cmd, Reply: s.Reply})
		}
	}
	if !n.engine.Sealed() {
		return
	}
	next := n.engine.Snap()
	n.install(next)
	for _, node := range next.Config.Nodes {
		if node != n.me {
			n.sendSnap(node, next)
		}
	}
}

// install goes on to where another epoch begins.
func (n *Node) install(s api.Snap) {
	engine, err := apply.New(s)
	if err != api.OK {
		return
	}
	n.keep(code.Record{Seal: true, Snap: clone.Snap(s)})
	n.begin(engine, s.Config)
	n.tell(api.Event{Kind: api.EvSeal, Conf: s.Config})
}

// take leads an instance from now on.
func (n *Node) take(id api.ID, l *lead.Lead) {
	n.leads[id] = l
	n.ask(id, l)
}

// ask asks all that a lead waits for; this node itself behind all others.
func (n *Node) ask(id api.ID, l *lead.Lead) {
	nodes := l.Waiting()
	if l.Phase() == lead.Decided {
		nodes = n.conf.Nodes
		delete(n.leads, id)
	}
	for _, node := range nodes {
		m := l.Ask()
		m.To = node
		if node != n.me {
			n.send(m)
			continue
		}
		n.later(func() {
			for _, a := range n.hear(m) {
				n.hears(l, a)
			}
		})
	}
}

// hears lets a lead hear an answer, and go on by it.
func (n *Node) hears(l *lead.Lead, m api.Msg) {
	if l.Hear(m) && l.Phase() != lead.Beaten {
		n.ask(m.ID, l)
	}
}

// deliveries are what is done with a message, by kinds.
func (n *Node) deliveries() map[api.MsgKind]func(api.Msg) {
	return map[api.MsgKind]func(api.Msg){
		api.MsgPre:       n.asked,
		api.MsgAccept:    n.asked,
		api.MsgPrepare:   n.asked,
		api.MsgCommit:    n.committed,
		api.MsgPreOK:     n.answered,
		api.MsgAcceptOK:  n.answered,
		api.MsgPrepareOK: n.answered,
		api.MsgNo:        n.answered,
		api.MsgAsk:       n.begged,
		api.MsgSnap:      n.snapped,
	}
}

// asked votes, and answers.
func (n *Node) asked(m api.Msg) {
	for _, a := range n.hear(m) {
		n.send(a)
	}
}

// committed knows an instance as decided.
func (n *Node) committed(m api.Msg) {
	n.hear(m)
	n.answered(m)
}

// answered lets the instance's lead hear, if there is one.
func (n *Node) answered(m api.Msg) {
	if l := n.leads[m.ID]; l != nil {
		n.hears(l, m)
	}
}

// begged tells who is behind where this epoch began.
func (n *Node) begged(m api.Msg) {
	if m.ID.Epoch < n.Epoch() {
		n.sendSnap(m.From, n.engine.Start())
	}
}

// snapped goes on to an epoch that is ahead.
func (n *Node) snapped(m api.Msg) {
	if m.Snap.Config.Epoch > n.Epoch() {
		n.install(m.Snap)
		n.do()
	}
}

// same tells whether two instances are just the same.
func same(a, b api.Inst) bool {
	return a.Status == b.Status && a.Promise == b.Promise && a.Voted == b.Voted && a.Cmd == b.Cmd &&
		a.Attr.Seq == b.Attr.Seq && slices.Equal(a.Attr.Deps, b.Attr.Deps)
}
