package clone

import (
	"reflect"
	"testing"

	"syndic/api"
)

// full are things with something in each of their lists.
func full() (api.Msg, api.Event) {
	attr := api.Attr{Seq: 3, Deps: []api.ID{{Epoch: 1}, {No: 2}}}
	reply := api.Reply{Value: "v", Names: []string{"a", "b"}}
	snap := api.Snap{
		Config:   api.Config{Epoch: 1, Nodes: []int{1, 2}},
		Paths:    []api.Entry{{Path: "/a", Version: 1}},
		Sessions: []api.Session{{Client: 1, Seq: 2, Reply: reply}},
	}
	return api.Msg{Kind: api.MsgSnap, From: 4, Inst: api.Inst{Status: api.StPre, Attr: attr}, Snap: snap},
		api.Event{Kind: api.EvSeal, Node: 3, Attr: attr, Reply: reply, Conf: snap.Config}
}

func TestClonesAreTheSame(t *testing.T) {
	m, e := full()
	if !reflect.DeepEqual(Msg(m), m) || !reflect.DeepEqual(Event(e), e) {
		t.Error(Msg(m), Event(e))
	}
	if !reflect.DeepEqual(Msg(api.Msg{}), api.Msg{}) || !reflect.DeepEqual(Event(api.Event{}), api.Event{}) {
		t.Error("of nothing")
	}
}

func TestClonesShareNothing(t *testing.T) {
	m, _ := full()
	_, e := full()
	c, d := Msg(m), Event(e)
	c.Inst.Attr.Deps[0].No, c.Snap.Config.Nodes[0], c.Snap.Paths[0].Value, c.Snap.Sessions[0].Seq, c.Snap.Sessions[0].Reply.Names[0] = 9, 9, "9", 9, "9"
	d.Attr.Deps[0].No, d.Reply.Names[0], d.Conf.Nodes[0] = 9, "9", 9
	wantM, wantE := full()
	if !reflect.DeepEqual(m, wantM) || !reflect.DeepEqual(e, wantE) {
		t.Error(m, e)
	}
}
