package frame

import (
	"bytes"
	"testing"

	"syndic/api"
)

// framed is the frames of bodies that can be joined.
func framed(t *testing.T, bodies ...string) []byte {
	var l [][]byte
	for _, body := range bodies {
		l = append(l, []byte(body))
	}
	b, err := Join(l)
	if err != api.OK {
		t.Fatal(err)
	}
	return b
}

func TestPut(t *testing.T) {
	for body, want := range map[string]string{
		"":          "\x00\x00\x00\x00\x00\x00\x00\x00",
		"123456789": "\x09\x00\x00\x00\x26\x39\xf4\xcb123456789",
	} {
		if f, err := Put([]byte(body)); string(f) != want || err != api.OK {
			t.Errorf("%q: %x, %v", body, f, err)
		}
	}
	f, err := Put(make([]byte, 300))
	if err != api.OK || string(f[:4]) != "\x2c\x01\x00\x00" || len(f) != 300+Extra {
		t.Errorf("%x, %v", f[:4], err)
	}
}

func TestLongestBody(t *testing.T) {
	body := make([]byte, 16777216)
	if f, err := Put(body); len(f) != 0 || err != api.ErrLong {
		t.Error(len(f), err)
	}
	f, err := Put(body[:16777215])
	if err != api.OK || string(f[:4]) != "\xff\xff\xff\x00" {
		t.Fatal(err)
	}
	got, n, err := Take(f)
	if err != api.OK || n != len(f) || len(got) != 16777215 {
		t.Error(len(got), n, err)
	}
	if b, err := Join([][]byte{{1}, body, {2}}); len(b) != 0 || err != api.ErrLong {
		t.Error(len(b), err)
	}
}

func TestTake(t *testing.T) {
	b := append(framed(t, "hello"), "more"...)
	body, n, err := Take(b)
	if string(body) != "hello" || n != 13 || err != api.OK {
		t.Fatalf("%q, %d, %v", body, n, err)
	}
	b[8] = 'J'
	if string(body) != "hello" {
		t.Error("the body shares bytes with the frame")
	}
}

func TestTakeErrors(t *testing.T) {
	whole := framed(t, "hello")
	for i := range whole {
		if body, n, err := Take(whole[:i]); len(body) != 0 || n != 0 || err != api.ErrShort {
			t.Errorf("cut at %d: %q, %d, %v", i, body, n, err)
		}
	}
	for _, c := range []struct {
		bytes string
		want  api.Errno
	}{
		{"\x00\x00\x00\x01\x00\x00\x00\x00", api.ErrLong},
		{"\xff\xff\xff\xff\x00\x00\x00\x00and more", api.ErrLong},
		{"\xff\xff\xff\x00\x00\x00\x00\x00", api.ErrShort},
		{"\x00\x00\x00\x00\x01\x00\x00\x00", api.ErrSum},
		{"\x01\x00\x00\x00\x00\x00\x00\x00a", api.ErrSum},
		{"\x02\x00\x00\x00\x00\x00\x00\x00a", api.ErrShort},
	} {
		if body, n, err := Take([]byte(c.bytes)); len(body) != 0 || n != 0 || err != c.want {
			t.Errorf("%x: %q, %d, %v", c.bytes, body, n, err)
		}
	}
}

func TestJoinedIsTakenAgain(t *testing.T) {
	want := []string{"a", "", "some more", "\x00\xff"}
	b := framed(t, want...)
	got, n := All(b)
	if len(got) != len(want) || n != len(b) {
		t.Fatal(len(got), n)
	}
	for i := range want {
		if string(got[i]) != want[i] {
			t.Errorf("%q", got[i])
		}
	}
	if len(framed(t)) != 0 {
		t.Error("frames of no bodies")
	}
	if l, n := All(nil); len(l) != 0 || n != 0 {
		t.Error(l, n)
	}
}

func TestCutOffLosesWholeBodies(t *testing.T) {
	bodies := []string{"a", "", "some more", "b"}
	b := framed(t, bodies...)
	for i := range len(b) + 1 {
		got, n := All(b[:i])
		if len(got) > len(bodies) || n > i || !bytes.Equal(b[:n], framed(t, bodies[:len(got)]...)) {
			t.Fatal("cut at", i, n, len(got))
		}
		if len(got) < len(bodies) && n+Extra+len(bodies[len(got)]) <= i {
			t.Fatal("cut at", i, "one that is whole is lost")
		}
	}
}

func TestAllEndsAtTheFirstFault(t *testing.T) {
	b := framed(t, "one", "two", "three")
	b[11+Extra] ^= 1
	got, n := All(b)
	if len(got) != 1 || n != 11 || string(got[0]) != "one" {
		t.Errorf("%q, %d", got, n)
	}
	b[8] = 'O'
	if string(got[0]) != "one" {
		t.Error("bodies share bytes with the frames")
	}
}

func TestEachByteOfAFrameTells(t *testing.T) {
	b := framed(t, "a body")
	for i := range b {
		for turn := 1; turn < 256; turn++ {
			b[i] ^= byte(turn)
			if _, n, err := Take(b); err == api.OK && n == len(b) {
				t.Fatal(i, turn)
			}
			b[i] ^= byte(turn)
		}
	}
}
