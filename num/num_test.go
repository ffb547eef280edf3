package num

import (
	"math"
	"strings"
	"testing"

	"syndic/api"
)

// written is how the numbers at the edges are written.
var written = map[int]string{
	0:               "\x00",
	1:               "\x01",
	127:             "\x7f",
	128:             "\x80\x01",
	300:             "\xac\x02",
	16383:           "\xff\x7f",
	16384:           "\x80\x80\x01",
	1<<48 - 1:       "\xff\xff\xff\xff\xff\xff\x3f",
	api.MaxNumber:   "\x80\x80\x80\x80\x80\x80\x40",
	1<<42 - 1:       "\xff\xff\xff\xff\xff\x7f",
	1 << 42:         "\x80\x80\x80\x80\x80\x80\x01",
	0x7f<<7 | 1<<14: "\x80\xff\x01",
}

func TestNumbersAreWrittenLowestDigitFirst(t *testing.T) {
	for n, want := range written {
		b, err := New().Num(n).Bytes()
		if string(b) != want || err != api.OK {
			t.Errorf("%d: %x, %v", n, b, err)
		}
		if Size(n) != len(want) {
			t.Errorf("size of %d: %d", n, Size(n))
		}
	}
}

func TestNumbersBeyondSpoilAWriter(t *testing.T) {
	for _, n := range []int{-1, api.MaxNumber + 1, math.MinInt, math.MaxInt} {
		if Size(n) != 0 {
			t.Errorf("size of %d: %d", n, Size(n))
		}
		b, err := New().Num(5).Num(n).Num(6).Text("x").Bytes()
		if len(b) != 0 || err != api.ErrArg {
			t.Errorf("%d: %x, %v", n, b, err)
		}
	}
}

func TestWriterAnswersItself(t *testing.T) {
	w := New()
	if w.Num(1) != w || w.Text("a") != w || w.Num(-1) != w || w.Text("a") != w {
		t.Error("another writer")
	}
	if b, err := New().Bytes(); len(b) != 0 || err != api.OK {
		t.Errorf("%x, %v", b, err)
	}
}

func TestBytesAreHandedOutAlone(t *testing.T) {
	w := New().Num(1).Num(2)
	b, _ := w.Bytes()
	b[0] = 9
	if _ = append(b[:1], 9); b[1] != 9 {
		t.Fatal("not the same bytes")
	}
	if b, _ = w.Num(3).Bytes(); string(b) != "\x01\x02\x03" {
		t.Errorf("%x", b)
	}
	given := []byte{1, 2}
	r := Of(given)
	given[0] = 7
	if n := r.Num(); n != 1 {
		t.Error("a reader reads what became of its bytes:", n)
	}
}

func TestNumbersAreReadAgain(t *testing.T) {
	for want, b := range written {
		r := Of([]byte(b + "\x05"))
		if n := r.Num(); n != want || r.Left() != 1 || r.Num() != 5 || r.End() != api.OK || r.Left() != 0 {
			t.Errorf("%x: %d, %v", b, n, r.End())
		}
	}
}

func TestWrongNumbers(t *testing.T) {
	more := func(n int) string { return strings.Repeat("\x80", n) }
	for _, c := range []struct {
		bytes string
		want  api.Errno
	}{
		{"", api.ErrShort},
		{"\x80", api.ErrShort},
		{"\xff\xff", api.ErrShort},
		{more(7), api.ErrShort},
		{more(8), api.ErrForm},
		{more(9), api.ErrForm},
		{more(7) + "\x00", api.ErrForm},
		{more(7) + "\x01", api.ErrForm},
		{"\x80\x00", api.ErrForm},
		{"\x81\x80\x00", api.ErrForm},
		{more(6) + "\x00", api.ErrForm},
		{more(6) + "\x41", api.ErrForm},
		{"\x81" + more(5) + "\x40", api.ErrForm},
		{more(6) + "\x7f", api.ErrForm},
	} {
		r := Of([]byte(c.bytes))
		if n := r.Num(); n != 0 || r.End() != c.want || r.Left() != len(c.bytes) {
			t.Errorf("%x: %d, %v, %d left", c.bytes, n, r.End(), r.Left())
		}
		if n, s := r.Num(), r.Text(9); n != 0 || s != "" || r.End() != c.want {
			t.Errorf("%x, then: %d %q %v", c.bytes, n, s, r.End())
		}
		r = Of([]byte(c.bytes))
		if s := r.Text(1 << 50); s != "" || r.End() != c.want || r.Left() != len(c.bytes) {
			t.Errorf("%x as a text: %q, %v", c.bytes, s, r.End())
		}
	}
}

func TestTexts(t *testing.T) {
	b, err := New().Text("hi").Text("").Num(7).Text("\xff/").Bytes()
	if string(b) != "\x02hi\x00\x07\x02\xff/" || err != api.OK {
		t.Fatalf("%x, %v", b, err)
	}
	r := Of(b)
	if r.Text(2) != "hi" || r.Text(0) != "" || r.Num() != 7 || r.Left() != 3 || r.Text(64) != "\xff/" || r.End() != api.OK {
		t.Error(r.Left(), r.End())
	}
	long := strings.Repeat("x", 300)
	if b, _ = New().Text(long).Bytes(); string(b) != "\xac\x02"+long || Of(b).Text(300) != long {
		t.Error("a long text")
	}
}

func TestWrongTexts(t *testing.T) {
	for _, c := range []struct {
		bytes string
		most  int
		want  api.Errno
	}{
		{"\x02hi", 1, api.ErrLong},
		{"\x02h", 1, api.ErrLong},
		{"\x02h", 2, api.ErrShort},
		{"\x02", 2, api.ErrShort},
		{"\x00", -1, api.ErrLong},
		{"\x00", math.MinInt, api.ErrLong},
		{"\x80\x80\x80\x80\x80\x80\x40", math.MaxInt, api.ErrShort},
		{"\x82\x00hi", 1, api.ErrForm},
	} {
		r := Of([]byte(c.bytes))
		if s := r.Text(c.most); s != "" || r.End() != c.want || r.Left() != len(c.bytes) {
			t.Errorf("%x of at most %d: %q, %v, %d left", c.bytes, c.most, s, r.End(), r.Left())
		}
		if n := r.Num(); n != 0 || r.End() != c.want {
			t.Errorf("%x, then: %d, %v", c.bytes, n, r.End())
		}
	}
}

func TestFirstFaultStays(t *testing.T) {
	r := Of([]byte("\x05\x80\x00\x01"))
	r.Num()
	r.Num()
	if n := r.Num(); n != 0 || r.End() != api.ErrForm || r.Left() != 3 {
		t.Error(n, r.End(), r.Left())
	}
}

func TestEndOfBytesThatAreLeft(t *testing.T) {
	r := Of([]byte{1, 2})
	if r.End() != api.ErrForm || r.Num() != 1 || r.End() != api.ErrForm || r.Num() != 2 || r.End() != api.OK {
		t.Error(r.End())
	}
	if Of(nil).End() != api.OK || Of(nil).Left() != 0 {
		t.Error("nothing is left of nothing")
	}
}

// What is read in whole is written so, and in no other way.
func TestOneWayAlone(t *testing.T) {
	for i := range 1 << 24 {
		b := []byte{byte(i), byte(i >> 8), byte(i >> 16)}[:i%3+1]
		r := Of(b)
		n := r.Num()
		if r.End() != api.OK {
			continue
		}
		if again, _ := New().Num(n).Bytes(); string(again) != string(b) {
			t.Fatalf("%x is %d, which is %x", b, n, again)
		}
	}
}
