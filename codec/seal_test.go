package codec_test

import (
	"bytes"
	"encoding/binary"
	"hash/crc32"
	"math/rand"
	"testing"

	"leat/api"
	"leat/codec"
)

// maxSealed is how many bytes Open takes within a seal: P1.1.
const maxSealed = 1 << 20

func randomBytes(rnd *rand.Rand, n int) []byte {
	b := make([]byte, n)
	rnd.Read(b)
	return b
}

// bySeal lays a length, the right sum and b together, without Seal.
func bySeal(length uint32, b []byte) []byte {
	out := binary.BigEndian.AppendUint32(nil, length)
	out = binary.BigEndian.AppendUint32(out, crc32.ChecksumIEEE(b))
	return append(out, b...)
}

func wantTorn(t *testing.T, what string, b []byte) {
	t.Helper()
	in, n, e := codec.Open(b)
	if e != api.ErrCodecTorn || len(in) != 0 || n != 0 {
		t.Errorf("P1.1: Open of %s: %d bytes within, %d in all, %v", what, len(in), n, e)
	}
}

func TestSumOfKnownBytes(t *testing.T) {
	for _, x := range []struct {
		text string
		want uint32
	}{
		{"", 0},
		{"123456789", 0xCBF43926},
		{"a", 0xE8B7BE43},
		{"\x00", 0xD202EF8D},
		{"\xff\xff\xff\xff", 0xFFFFFFFF},
		{"The quick brown fox jumps over the lazy dog", 0x414FA339},
	} {
		if got := codec.Sum([]byte(x.text)); got != x.want {
			t.Errorf("P1.1: Sum(%q) is %08X, wanted %08X", x.text, got, x.want)
		}
	}
	if got := codec.Sum(nil); got != 0 {
		t.Errorf("P1.1: Sum(nil) is %08X", got)
	}
}

func TestSumOfManyBytes(t *testing.T) {
	for c := range 256 {
		b := []byte{byte(c)}
		if got, want := codec.Sum(b), crc32.ChecksumIEEE(b); got != want {
			t.Errorf("P1.1: Sum(%x) is %08X, wanted %08X", b, got, want)
		}
	}
	rnd := rand.New(rand.NewSource(1))
	for i := range 300 {
		b := randomBytes(rnd, i)
		if got, want := codec.Sum(b), crc32.ChecksumIEEE(b); got != want {
			t.Errorf("P1.1: Sum(%x) is %08X, wanted %08X", b, got, want)
		}
	}
}

func TestSealHasLengthSumBytes(t *testing.T) {
	want := []byte{0, 0, 0, 9, 0xCB, 0xF4, 0x39, 0x26, '1', '2', '3', '4', '5', '6', '7', '8', '9'}
	if got := codec.Seal([]byte("123456789")); !bytes.Equal(got, want) {
		t.Errorf("P1.1: Seal: %x", got)
	}
	for _, none := range [][]byte{nil, {}} {
		if got := codec.Seal(none); !bytes.Equal(got, make([]byte, 8)) {
			t.Errorf("P1.1: Seal of nothing: %x", got)
		}
	}
	rnd := rand.New(rand.NewSource(2))
	for _, n := range []int{1, 255, 256, 65535, 65536, maxSealed, maxSealed + 1} {
		b := randomBytes(rnd, n)
		if got := codec.Seal(b); !bytes.Equal(got, bySeal(uint32(n), b)) {
			t.Errorf("P1.1: Seal of %d bytes is another one", n)
		}
	}
}

func TestOpenTellsWhatIsWithin(t *testing.T) {
	rnd := rand.New(rand.NewSource(3))
	for _, n := range []int{0, 1, 7, 8, 9, 255, 256, 65536, maxSealed - 1, maxSealed} {
		b := randomBytes(rnd, n)
		for _, more := range []int{0, 1, 20} {
			in, size, e := codec.Open(append(codec.Seal(b), randomBytes(rnd, more)...))
			if e != api.OK || size != n+8 || !bytes.Equal(in, b) {
				t.Errorf("P1.1: %d bytes and %d behind the seal: %d within, %d in all, %v", n, more, len(in), size, e)
			}
		}
	}
}

func TestOpenTellsTheFirstOfSeveral(t *testing.T) {
	b := append(codec.Seal([]byte("one")), codec.Seal([]byte("three"))...)
	in, n, e := codec.Open(b)
	if e != api.OK || string(in) != "one" || n != 11 {
		t.Fatalf("P1.1: %q, %d, %v", in, n, e)
	}
	in, n, e = codec.Open(b[n:])
	if e != api.OK || string(in) != "three" || n != 13 {
		t.Errorf("P1.1: %q, %d, %v", in, n, e)
	}
}

func TestOpenRefusesWhatIsNotWhole(t *testing.T) {
	wantTorn(t, "nil", nil)
	for n := range 8 {
		wantTorn(t, "noughts that are too few", make([]byte, n))
	}
	b := codec.Seal([]byte("counted once"))
	for n := range b {
		wantTorn(t, "a seal cut short", b[:n])
	}
}

func TestOpenDoesNotReadSpareRoom(t *testing.T) {
	b := codec.Seal([]byte("counted once"))
	wantTorn(t, "a seal whose end is only spare room", b[:len(b)-1:len(b)])
}

func TestOpenRefusesWrongLengths(t *testing.T) {
	b := []byte("counted once")
	n := uint32(len(b))
	for _, length := range []uint32{0, n - 1, n + 1, maxSealed, maxSealed + 1, 1 << 31, 1<<32 - 1, 1<<31 + n} {
		wantTorn(t, "a seal with another length", bySeal(length, b))
	}
	wantTorn(t, "2^20 + 1 bytes", bySeal(maxSealed+1, make([]byte, maxSealed+1)))
	wantTorn(t, "2^20 + 1 bytes that Seal wrote", codec.Seal(make([]byte, maxSealed+1)))
}

func TestOpenRefusesAnyBitChanged(t *testing.T) {
	rnd := rand.New(rand.NewSource(4))
	for _, n := range []int{0, 1, 4, 33, 200} {
		b := codec.Seal(randomBytes(rnd, n))
		for i := 4 * 8; i < len(b)*8; i++ {
			x := bytes.Clone(b)
			x[i/8] ^= 1 << (i % 8)
			in, size, e := codec.Open(x)
			if e != api.ErrCodecTorn || len(in) != 0 || size != 0 {
				t.Errorf("P1.7: %d bytes, bit %d changed: %v", n, i, e)
			}
		}
	}
}

func TestSealsShareNoMemory(t *testing.T) {
	room := []byte("counted once, whatever fails")
	was := bytes.Clone(room)
	sealed := codec.Seal(room[:7])
	kept := bytes.Clone(sealed)
	in, _, _ := codec.Open(sealed)
	for i := range in {
		in[i] = '!'
	}
	if !bytes.Equal(sealed, kept) {
		t.Errorf("P1.1: what Open answers lies in what it was given")
	}
	sealed = append(sealed[:8], "???????"...)
	codec.Open(sealed)
	if !bytes.Equal(room, was) {
		t.Errorf("P1.1: Seal's argument, or the room behind it, has changed: %q", room)
	}
}
