package code

import (
	"bytes"
	"reflect"
	"strings"
	"testing"

	"syndic/api"
	"syndic/frame"
	"syndic/num"
)

// fill puts another number, or text, into each field, and two things into each list.
func fill(v reflect.Value, n *int) {
	*n += 7
	switch v.Kind() {
	case reflect.Struct:
		for i := range v.NumField() {
			fill(v.Field(i), n)
		}
	case reflect.Slice:
		v.Set(reflect.MakeSlice(v.Type(), 2, 2))
		fill(v.Index(0), n)
		fill(v.Index(1), n)
	case reflect.String:
		v.SetString(strings.Repeat("t", *n%50))
	case reflect.Int:
		v.SetInt(int64(*n * *n))
	}
}

// fullMsg is a message with something in each field.
func fullMsg() api.Msg {
	var m api.Msg
	n := 0
	fill(reflect.ValueOf(&m).Elem(), &n)
	return m
}

// fullRecords are one of an instance, and one of a snap.
func fullRecords() (Record, Record) {
	m := fullMsg()
	return Record{ID: m.ID, Inst: m.Inst}, Record{Seal: true, Snap: m.Snap}
}

// leaves calls f with each number, text and list there is, at its place.
func leaves(v reflect.Value, f func(reflect.Value)) {
	switch v.Kind() {
	case reflect.Struct:
		for i := range v.NumField() {
			leaves(v.Field(i), f)
		}
	case reflect.Slice:
		f(v)
		for i := range v.Len() {
			leaves(v.Index(i), f)
		}
	case reflect.String, reflect.Int:
		f(v)
	}
}

// spelled is how a message is written, spelled out field by field.
func spelled(m api.Msg) []byte {
	w := num.New()
	nums := func(l ...int) {
		for _, n := range l {
			w.Num(n)
		}
	}
	nums(int(m.Kind), m.From, m.To)
	nums(m.ID.Epoch, m.ID.Node, m.ID.No, m.Ballot.No, m.Ballot.Node)
	x := m.Inst
	nums(int(x.Status), x.Promise.No, x.Promise.Node, x.Voted.No, x.Voted.Node)
	nums(x.Cmd.Client, x.Cmd.Seq, int(x.Cmd.Op))
	w.Text(x.Cmd.Path).Text(x.Cmd.Value)
	nums(x.Cmd.Version, x.Cmd.A, x.Cmd.B, x.Attr.Seq, len(x.Attr.Deps))
	for _, d := range x.Attr.Deps {
		nums(d.Epoch, d.Node, d.No)
	}
	nums(m.Snap.Config.Epoch, len(m.Snap.Config.Nodes))
	nums(m.Snap.Config.Nodes...)
	nums(len(m.Snap.Paths))
	for _, p := range m.Snap.Paths {
		w.Text(p.Path).Text(p.Value).Num(p.Version)
	}
	nums(len(m.Snap.Sessions))
	for _, s := range m.Snap.Sessions {
		nums(s.Client, s.Seq, int(s.Reply.Err))
		w.Text(s.Reply.Value).Num(s.Reply.Version).Num(len(s.Reply.Names))
		for _, name := range s.Reply.Names {
			w.Text(name)
		}
	}
	b, _ := w.Bytes()
	return b
}

func TestMessagesAreWrittenFieldByField(t *testing.T) {
	for _, m := range []api.Msg{{}, fullMsg(), {Kind: api.MsgSnap, From: 3, Snap: fullMsg().Snap}} {
		b, err := Msg(m)
		if err != api.OK || !bytes.Equal(b, spelled(m)) {
			t.Errorf("%x, %v: %x", b, err, spelled(m))
		}
		again, err := OfMsg(b)
		if b2, _ := Msg(again); err != api.OK || !bytes.Equal(b, b2) {
			t.Errorf("%+v, %v", again, err)
		}
	}
	m := fullMsg()
	b, _ := Msg(m)
	if got, err := OfMsg(b); err != api.OK || !reflect.DeepEqual(got, m) {
		t.Errorf("%+v, %v", got, err)
	}
	if !reflect.DeepEqual(m, fullMsg()) {
		t.Error("the argument was changed")
	}
}

func TestRecords(t *testing.T) {
	x := Record{ID: api.ID{Epoch: 1, Node: 2, No: 3}}
	if b, err := Put(x); err != api.OK || string(b) != "\x00\x01\x02\x03"+strings.Repeat("\x00", 15) {
		t.Errorf("%x, %v", b, err)
	}
	if b, err := Put(Record{Seal: true}); err != api.OK || string(b) != "\x01\x00\x00\x00\x00" {
		t.Errorf("%x, %v", b, err)
	}
	m := fullMsg()
	all, _ := Msg(m)
	one, two := fullRecords()
	b, err := Put(one)
	ahead, _ := num.New().Num(0).Num(one.ID.Epoch).Num(one.ID.Node).Num(one.ID.No).Bytes()
	if inst, ok := bytes.CutPrefix(b, ahead); !ok || !bytes.Contains(all, inst) || err != api.OK {
		t.Errorf("%x, %v: %x", b, err, all)
	}
	if got, err := Get(b); err != api.OK || !reflect.DeepEqual(got, one) {
		t.Errorf("%+v, %v", got, err)
	}
	b, err = Put(two)
	if b[0] != 1 || !bytes.HasSuffix(all, b[1:]) || err != api.OK {
		t.Errorf("%x, %v: %x", b, err, all)
	}
	if got, err := Get(b); err != api.OK || !reflect.DeepEqual(got, two) {
		t.Errorf("%+v, %v", got, err)
	}
}

func TestRecordsThatTellSomethingElse(t *testing.T) {
	one, two := fullRecords()
	none := func(r Record) {
		t.Helper()
		if b, err := Put(r); len(b) != 0 || err != api.ErrArg {
			t.Errorf("%+v: %x, %v", r, b, err)
		}
	}
	none(Record{Seal: true, ID: one.ID})
	none(Record{ID: one.ID, Inst: one.Inst, Snap: two.Snap})
	for i := range reflect.ValueOf(one.Inst).NumField() {
		r := Record{Seal: true}
		reflect.ValueOf(&r.Inst).Elem().Field(i).Set(reflect.ValueOf(one.Inst).Field(i))
		none(r)
	}
	none(Record{Seal: true, Inst: api.Inst{Attr: api.Attr{Seq: 1}}})
	none(Record{Seal: true, Inst: api.Inst{Attr: api.Attr{Deps: []api.ID{{}}}}})
	none(Record{Snap: api.Snap{Config: api.Config{Epoch: 1}}})
	none(Record{Snap: api.Snap{Config: api.Config{Nodes: []int{0}}}})
	none(Record{Snap: api.Snap{Paths: []api.Entry{{}}}})
	none(Record{Snap: api.Snap{Sessions: []api.Session{{}}}})
	empty := Record{Snap: api.Snap{Config: api.Config{Nodes: []int{}}, Paths: []api.Entry{}, Sessions: []api.Session{}}}
	if _, err := Put(empty); err != api.OK {
		t.Error("lists without things tell nothing:", err)
	}
	if _, err := Put(Record{Seal: true, Inst: api.Inst{Attr: api.Attr{Deps: []api.ID{}}}}); err != api.OK {
		t.Error("a list without things tells nothing:", err)
	}
}

func TestWhatCantBeWritten(t *testing.T) {
	m := fullMsg()
	try := func(want api.Errno, what string) {
		t.Helper()
		b, err := Msg(m)
		f, ferr := Frame(m)
		if err != want || ferr != want || (err != api.OK && len(b)+len(f) > 0) {
			t.Error(what, err, ferr)
		}
		if want == api.OK {
			if got, err := OfMsg(b); err != api.OK || !reflect.DeepEqual(got, m) {
				t.Error(what, err)
			}
		}
	}
	places := 0
	leaves(reflect.ValueOf(&m).Elem(), func(v reflect.Value) {
		places++
		kept := reflect.ValueOf(v.Interface())
		switch v.Kind() {
		case reflect.Int:
			v.SetInt(api.MaxNumber)
			try(api.OK, "the greatest number")
			v.SetInt(api.MaxNumber + 1)
			try(api.ErrArg, "too great a number")
			v.SetInt(-1)
			try(api.ErrArg, "a number below 0")
		case reflect.String:
			v.SetString(strings.Repeat("x", 4096))
			try(api.OK, "the longest text")
			v.SetString(strings.Repeat("x", 4097))
			try(api.ErrArg, "too long a text")
		case reflect.Slice:
			v.Set(reflect.MakeSlice(v.Type(), 1025, 1025))
			try(api.ErrArg, "too long a list")
			v.Set(reflect.MakeSlice(v.Type(), 1024, 1024))
			if b, err := Msg(m); err != api.OK || len(b) < 1024 {
				t.Error("the longest list", err)
			}
		}
		v.Set(kept)
	})
	if places < 40 || !reflect.DeepEqual(m, fullMsg()) {
		t.Error(places, "places")
	}
	one, two := fullRecords()
	one.Inst.Attr.Deps[1].No, two.Snap.Sessions[1].Reply.Names = -1, make([]string, 1025)
	for _, r := range []Record{one, two} {
		if b, err := Put(r); len(b) != 0 || err != api.ErrArg {
			t.Errorf("%x, %v", b, err)
		}
	}
}

func TestWrongBytes(t *testing.T) {
	whole, _ := Msg(fullMsg())
	for i := range whole {
		if m, err := OfMsg(whole[:i]); err != api.ErrShort || !reflect.DeepEqual(m, api.Msg{}) {
			t.Fatal("cut at", i, err)
		}
	}
	if m, err := OfMsg(append(whole, 0)); err != api.ErrForm || !reflect.DeepEqual(m, api.Msg{}) {
		t.Error("bytes are left:", err)
	}
	inst := "\x00\x01\x02\x03"
	for _, c := range []struct {
		bytes string
		want  api.Errno
	}{
		{"", api.ErrShort},
		{"\x02", api.ErrForm},
		{"\x02\x00\x00\x00", api.ErrForm},
		{"\x02\x80", api.ErrForm},
		{"\x80", api.ErrShort},
		{"\x80\x00", api.ErrForm},
		{"\x81\x01", api.ErrForm},
		{"\x00", api.ErrShort},
		{inst + strings.Repeat("\x00", 14), api.ErrShort},
		{inst + strings.Repeat("\x00", 16), api.ErrForm},
		{inst + strings.Repeat("\x00", 14) + "\x81\x08", api.ErrLong},
		{inst + strings.Repeat("\x00", 14) + "\x81\x08\x80\x00", api.ErrLong},
		{inst + strings.Repeat("\x00", 14) + "\x80\x08", api.ErrShort},
		{inst + strings.Repeat("\x00", 13) + "\x80\x00\x81\x08", api.ErrForm},
		{inst + strings.Repeat("\x00", 8) + "\x81\x20", api.ErrLong},
		{inst + strings.Repeat("\x00", 8) + "\x80\x20", api.ErrShort},
		{"\x01\x00\x81\x08\x02", api.ErrLong},
		{"\x01\x00\x00\x81\x08", api.ErrLong},
		{"\x01\x00\x00\x00\x81\x08", api.ErrLong},
		{"\x01\x00\x00\x00\x01\x01\x01\x00\x00\x00\x81\x08", api.ErrLong},
		{"\x01\x00\x00\x00\x00\x00", api.ErrForm},
		{"\x01\x00\x00\x00", api.ErrShort},
		{"\x01" + strings.Repeat("\xff", 9), api.ErrForm},
	} {
		if r, err := Get([]byte(c.bytes)); err != c.want || !reflect.DeepEqual(r, Record{}) {
			t.Errorf("%x: %v", c.bytes, err)
		}
	}
}

func TestOneWayAlone(t *testing.T) {
	m := api.Msg{Kind: api.MsgAccept, From: 200, Inst: fullMsg().Inst, Snap: api.Snap{Config: api.Config{Nodes: []int{300}}}}
	whole, _ := Msg(m)
	for i := range whole {
		for turn := 1; turn < 256; turn++ {
			b := bytes.Clone(whole)
			b[i] ^= byte(turn)
			got, err := OfMsg(b)
			if err != api.OK {
				continue
			}
			if again, err := Msg(got); err != api.OK || !bytes.Equal(again, b) {
				t.Fatalf("%x is read, and %x is written, %v", b, again, err)
			}
		}
	}
}

func TestFrames(t *testing.T) {
	m := fullMsg()
	body, _ := Msg(m)
	want, _ := frame.Put(body)
	f, err := Frame(m)
	if err != api.OK || !bytes.Equal(f, want) {
		t.Fatalf("%x, %v", f, err)
	}
	if got, err := OfFrame(f); err != api.OK || !reflect.DeepEqual(got, m) {
		t.Errorf("%+v, %v", got, err)
	}
	for i := range f {
		if m, err := OfFrame(f[:i]); err != api.ErrShort || !reflect.DeepEqual(m, api.Msg{}) {
			t.Fatal("cut at", i, err)
		}
		for turn := 1; turn < 256; turn += 3 {
			f[i] ^= byte(turn)
			if m, err := OfFrame(f); err == api.OK || !reflect.DeepEqual(m, api.Msg{}) {
				t.Fatal("byte", i, "is another one")
			}
			f[i] ^= byte(turn)
		}
	}
	if _, err := OfFrame(append(f, 0)); err != api.ErrForm {
		t.Error("a byte behind:", err)
	}
	f[9] ^= 1
	if _, err := OfFrame(append(f, 0)); err != api.ErrSum {
		t.Error("the sum is another one:", err)
	}
	bad, _ := frame.Put([]byte{1, 2, 3})
	if _, err := OfFrame(bad); err != api.ErrShort {
		t.Error("a body that is no message:", err)
	}
	if _, err := OfFrame([]byte{0, 0, 0, 1, 0, 0, 0, 0}); err != api.ErrLong {
		t.Error("a frame that is too long:", err)
	}
}

// A message that can be written may be too long for a frame.
func TestTooLongForAFrame(t *testing.T) {
	var m api.Msg
	text := strings.Repeat("x", 4096)
	for range 3 {
		names := make([]string, 1024)
		for i := range names {
			names[i] = text
		}
		m.Snap.Sessions = append(m.Snap.Sessions, api.Session{Reply: api.Reply{Names: names}})
	}
	if b, err := Frame(m); err != api.OK || len(b) < 3<<22 {
		t.Error(len(b), err)
	}
	m.Snap.Sessions = append(m.Snap.Sessions, m.Snap.Sessions...)
	if b, err := Frame(m); len(b) != 0 || err != api.ErrLong {
		t.Error(len(b), err)
	}
}
