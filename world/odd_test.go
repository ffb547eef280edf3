package world

import (
	"math"
	"reflect"
	"strings"
	"testing"

	"syndic/accept"
	"syndic/api"
	"syndic/apply"
	"syndic/attr"
	"syndic/ballot"
	"syndic/code"
	"syndic/config"
	"syndic/dir"
	"syndic/disk"
	"syndic/frame"
	"syndic/graph"
	"syndic/ids"
	"syndic/lead"
	"syndic/node"
	"syndic/num"
	"syndic/paths"
	"syndic/record"
	"syndic/session"
	"syndic/sum"
	"syndic/touch"
)

// odd makes arguments of any type: ordinary ones, those at the edges, and wrong ones.
type odd struct {
	turn uint32
}

func (o *odd) next(n int) int {
	o.turn = o.turn*1664525 + 1013904223
	return int(o.turn>>8) % n
}

// number is most often a small one, so that many are right together.
func (o *odd) number() int {
	edges := []int{math.MinInt, -1, 31, 32, 64, 1 << 20, 1 << 40, 1<<40 + 1, api.MaxNumber, api.MaxNumber + 1, math.MaxInt}
	if o.next(8) == 0 {
		return edges[o.next(len(edges))]
	}
	return o.next(5)
}

func (o *odd) fill(v reflect.Value) {
	texts := []string{"", "/", "/a", "/a/b", "/a/c", "a", "//", "/A", "\xff\x00", strings.Repeat("x", 65), strings.Repeat("/a", 9), strings.Repeat("x", 4097)}
	switch v.Kind() {
	case reflect.Int:
		v.SetInt(int64(o.number()))
	case reflect.Uint32, reflect.Uint8:
		v.SetUint(uint64(o.next(256)))
	case reflect.Bool:
		v.SetBool(o.next(2) == 0)
	case reflect.String:
		v.SetString(texts[o.next(len(texts))])
	case reflect.Struct:
		for i := range v.NumField() {
			if v.Field(i).CanSet() && o.next(3) > 0 {
				o.fill(v.Field(i))
			}
		}
	case reflect.Slice:
		v.Set(reflect.MakeSlice(v.Type(), o.next(4), 8))
		for i := range v.Len() {
			o.fill(v.Index(i))
		}
	case reflect.Map:
		v.Set(reflect.MakeMap(v.Type()))
		key, value := reflect.New(v.Type().Key()).Elem(), reflect.New(v.Type().Elem()).Elem()
		o.fill(key)
		o.fill(value)
		v.SetMapIndex(key, value)
	}
}

// args are such for a function, but for the receiver of a method.
func (o *odd) args(f reflect.Type) []reflect.Value {
	var l []reflect.Value
	for i := range f.NumIn() {
		v := reflect.New(f.In(i)).Elem()
		o.fill(v)
		l = append(l, v)
	}
	return l
}

// calls are all functions that the document lists, and what makes values with methods.
func calls() (functions, makers []any) {
	functions = []any{
		num.Size, sum.Of, sum.More, sum.Table, frame.Put, frame.Take, frame.All, frame.Join,
		ids.Less, ids.Valid, ids.Clean, ids.Right, ids.Has, ids.Union, ids.Less2, ids.Same, ids.Show,
		ballot.Less, ballot.Most, ballot.First, ballot.Next, ballot.Valid, ballot.Quorum, ballot.Enough, ballot.All,
		paths.Valid, paths.Names, paths.Of, paths.Parent, paths.Last, paths.Depth, paths.Below, paths.Less,
		touch.Reads, touch.Writes, touch.Paths, touch.Both, touch.Control, session.Valid,
		config.Valid, config.Has, config.Change, config.Follows, config.Same, config.Clone,
		attr.Valid, attr.Local, attr.Merge, attr.Same, attr.All, attr.Agree, attr.Linked,
		graph.Valid, graph.Reach, graph.Ready, graph.Order, graph.Flat,
		code.Msg, code.OfMsg, code.Put, code.Get, code.Frame, code.OfFrame,
		record.Replay, record.Add, record.Next, record.Same, Run,
	}
	makers = []any{
		num.New, num.Of, dir.New, dir.Of, session.New, session.Of, disk.New, disk.Of,
		accept.New, lead.New, lead.Take, apply.New, node.New, New,
		func(c api.Config) (*World, api.Errno) { return New(three, 4) },
		func() (*node.Node, api.Errno) { return node.New(1, record.Replay(api.Snap{Config: three}, nil)) },
		func() *accept.Book { return accept.New(1, three) },
		func() *lead.Lead { return lead.New(three, 1, api.ID{Node: 1}, api.Command{}, api.Attr{}) },
		func() *lead.Lead { return lead.Take(three, 1, api.ID{Node: 1}, api.Ballot{No: 1}) },
		func() (*apply.Engine, api.Errno) { return apply.New(api.Snap{Config: three}) },
	}
	return functions, makers
}

// holdErrors holds that beside an error all else that is answered is zero.
func holdErrors(t *testing.T, name string, out []reflect.Value) {
	if len(out) < 2 {
		return
	}
	err, ok := out[len(out)-1].Interface().(api.Errno)
	if !ok || err == api.OK {
		return
	}
	for _, v := range out[:len(out)-1] {
		if !v.IsZero() && !(v.Kind() == reflect.Slice && v.Len() == 0) {
			t.Fatalf("%s: %v beside %v", name, v, err)
		}
	}
}

// P1: every call ends, and none panics, at all arguments.
func TestOddArguments(t *testing.T) {
	functions, makers := calls()
	o := &odd{turn: 1}
	for range 300 {
		for _, f := range functions {
			v := reflect.ValueOf(f)
			holdErrors(t, v.Type().String(), v.Call(o.args(v.Type())))
		}
	}
	for range 60 {
		for _, f := range makers {
			v := reflect.ValueOf(f)
			out := v.Call(o.args(v.Type()))
			holdErrors(t, v.Type().String(), out)
			if x := out[0]; !x.IsNil() {
				for range 80 {
					m := x.Method(o.next(x.NumMethod()))
					holdErrors(t, x.Type().String(), m.Call(o.args(m.Type())))
				}
			}
		}
	}
}
