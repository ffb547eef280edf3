package disk

import (
	"bytes"
	"math"
	"testing"

	"syndic/api"
	"syndic/frame"
)

// told is bodies as a text.
func told(l [][]byte) string { return string(bytes.Join(l, []byte("|"))) }

// filled is a disk with bodies, of which the first ones are synced.
func filled(t *testing.T, synced int, bodies ...string) *Disk {
	d := New()
	for i, body := range bodies {
		if i == synced {
			d.Sync()
		}
		if err := d.Append([]byte(body)); err != api.OK {
			t.Fatal(err)
		}
	}
	if synced == len(bodies) {
		d.Sync()
	}
	return d
}

func TestNewIsEmpty(t *testing.T) {
	d := New()
	if len(d.Bytes()) != 0 || d.Dirty() != 0 || len(d.Open()) != 0 {
		t.Error(d)
	}
	d.Crash(5)
	d.Sync()
	if len(d.Bytes()) != 0 || d.Dirty() != 0 {
		t.Error(d)
	}
}

func TestAppendAndSync(t *testing.T) {
	d := filled(t, 1, "a", "bb")
	want, _ := frame.Join([][]byte{[]byte("a"), []byte("bb")})
	if !bytes.Equal(d.Bytes(), want) || d.Dirty() != 10 {
		t.Errorf("%x, %d", d.Bytes(), d.Dirty())
	}
	d.Sync()
	if !bytes.Equal(d.Bytes(), want) || d.Dirty() != 0 {
		t.Errorf("%x, %d", d.Bytes(), d.Dirty())
	}
	if err := d.Append(make([]byte, 16777216)); err != api.ErrLong || !bytes.Equal(d.Bytes(), want) || d.Dirty() != 0 {
		t.Error(err, len(d.Bytes()))
	}
}

func TestCrashKeepsTheFirstBytes(t *testing.T) {
	for keep, left := range map[int]int{math.MinInt: 9, -1: 9, 0: 9, 1: 10, 8: 17, 9: 18, 27: 36, 28: 36, math.MaxInt: 36} {
		d := filled(t, 1, "a", "b", "c", "d")
		all := d.Bytes()
		d.Crash(keep)
		if !bytes.Equal(d.Bytes(), all[:left]) || d.Dirty() != 0 {
			t.Errorf("keep %d: %x, %d", keep, d.Bytes(), d.Dirty())
		}
	}
}

func TestOpenCutsOffWhatIsBroken(t *testing.T) {
	d := filled(t, 1, "a", "b")
	d.Crash(8)
	if told(d.Open()) != "a" || len(d.Bytes()) != 9 || d.Dirty() != 0 {
		t.Errorf("%x", d.Bytes())
	}
	if d.Append([]byte("c")) != api.OK || told(d.Open()) != "a|c" || d.Dirty() != 0 {
		t.Errorf("%x", d.Bytes())
	}
	d.Append([]byte("e"))
	if d.Open(); d.Dirty() != 0 { // all last then
		t.Error("what was opened does not last")
	}
	d.Crash(0)
	if told(d.Open()) != "a|c|e" {
		t.Error("what was opened does not last")
	}
}

func TestOf(t *testing.T) {
	b := filled(t, 0, "a", "b", "c").Bytes()
	b[10] ^= 1
	d := Of(b)
	if d.Dirty() != 0 || !bytes.Equal(d.Bytes(), b) {
		t.Errorf("%x", d.Bytes())
	}
	d.Crash(0)
	if !bytes.Equal(d.Bytes(), b) || told(d.Open()) != "a" || !bytes.Equal(d.Bytes(), b[:9]) {
		t.Errorf("%x", d.Bytes())
	}
	if d = Of(nil); len(d.Bytes()) != 0 || d.Dirty() != 0 {
		t.Error(d)
	}
}

func TestNothingIsShared(t *testing.T) {
	body := []byte("body")
	b := filled(t, 0, "body").Bytes()
	want := bytes.Clone(b)
	d := Of(b)
	b[9] = 'x'
	d.Append(body)
	body[0] = 'x'
	d.Bytes()[9] = 'x'
	d.Open()[0][0] = 'x'
	if !bytes.Equal(d.Bytes(), append(want, want...)) {
		t.Errorf("%x", d.Bytes())
	}
	early := d.Bytes()
	d.Append([]byte("more"))
	d.Crash(0)
	d.Append([]byte("other"))
	if !bytes.Equal(early, append(want, want...)) {
		t.Errorf("%x", early)
	}
}

// Behind a crash there are all bodies that were synced, and some of the others, the first ones.
func TestBehindACrash(t *testing.T) {
	bodies := []string{"one", "", "three", "4"}
	for synced := range len(bodies) + 1 {
		dirty := filled(t, synced, bodies...).Dirty()
		for keep := range dirty + 2 {
			d := filled(t, synced, bodies...)
			d.Crash(keep)
			l := d.Open()
			if len(l) < synced || len(l) > len(bodies) || keep >= dirty && len(l) != len(bodies) {
				t.Fatal(synced, keep, told(l))
			}
			for i := range l {
				if string(l[i]) != bodies[i] {
					t.Fatal(synced, keep, told(l))
				}
			}
		}
	}
}
