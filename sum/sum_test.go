package sum

import (
	"hash/crc32"
	"testing"
)

// slow is the sum as the document tells it: a step for each byte.
func slow(s uint32, b []byte) uint32 {
	x := ^s
	for _, c := range b {
		x = step(x ^ uint32(c))
	}
	return ^x
}

func TestKnownSums(t *testing.T) {
	for s, want := range map[string]uint32{
		"":          0,
		"\x00":      0xd202ef8d,
		"a":         0xe8b7be43,
		"123456789": 0xcbf43926,
	} {
		if got := Of([]byte(s)); got != want {
			t.Errorf("%q: %x", s, got)
		}
	}
	if Of(nil) != 0 || More(77, nil) != 77 {
		t.Error("the sum of nothing more")
	}
}

func TestMoreGoesOn(t *testing.T) {
	all := []byte("a text that is cut at every place, \x00\xff\x80 and all")
	for i := range len(all) + 1 {
		if More(Of(all[:i]), all[i:]) != Of(all) {
			t.Error("cut at", i)
		}
		if slow(uint32(i)<<27, all[:i]) != More(uint32(i)<<27, all[:i]) {
			t.Error("from another sum on", i)
		}
	}
	if Of(all) != crc32.ChecksumIEEE(all) {
		t.Errorf("%x", Of(all))
	}
}

func TestTable(t *testing.T) {
	table := Table()
	if table[0] != 0 || table[1] != 0x77073096 || table[128] != 0xedb88320 || table[255] != 0x2d02ef8d {
		t.Errorf("%x %x %x %x", table[0], table[1], table[128], table[255])
	}
	seen := map[uint32]int{}
	for i, x := range table {
		seen[x] = i
	}
	if len(seen) != 256 {
		t.Error("two bytes make the same")
	}
	table[1] = 0
	if Table()[1] != 0x77073096 {
		t.Error("a table is not its caller's own")
	}
}

func TestEachByteTells(t *testing.T) {
	b := []byte("twenty bytes of text")
	want := Of(b)
	for i := range b {
		for turn := 1; turn < 256; turn++ {
			b[i] ^= byte(turn)
			if Of(b) == want {
				t.Fatal(i, turn)
			}
			b[i] ^= byte(turn)
		}
	}
}
