package crc_test

import (
	"bytes"
	"hash/crc32"
	"math"
	"slices"
	"testing"

	"lamella/crc"
)

// mixed is n bytes, the same ones in each run of the tests.
func mixed(seed uint32, n int) []byte {
	b := make([]byte, n)
	for i := range b {
		seed = seed*1664525 + 1013904223
		b[i] = byte(seed >> 16)
	}
	return b
}

// strange is a table that is not New's: entries of no rule, two of them the same.
func strange() crc.Table {
	var t crc.Table
	seed := uint32(7)
	for i := range t {
		seed = seed*1664525 + 1013904223
		t[i] = seed ^ seed>>15
	}
	t[9] = t[8]
	return t
}

// slowEntry is P2.1 word by word, bit by bit.
func slowEntry(i int) uint32 {
	n := uint64(i)
	for k := 0; k < 8; k++ {
		if n%2 == 1 {
			n = n/2 ^ 0xEDB88320
		} else {
			n = n / 2
		}
	}
	return uint32(n)
}

// slowMore is P2.2 word by word.
func slowMore(t crc.Table, s uint32, b []byte) uint32 {
	r := s ^ 0xFFFFFFFF
	for i := 0; i < len(b); i++ {
		eight := r%256 ^ uint32(b[i])
		r = r/256 ^ t[eight]
	}
	return r ^ 0xFFFFFFFF
}

type named struct {
	name  string
	table crc.Table
}

func tables() []named {
	var ones crc.Table
	for i := range ones {
		ones[i] = math.MaxUint32
	}
	changed := crc.New()
	changed[0x61] ^= 1
	return []named{{"New's", crc.New()}, {"none", crc.Table{}}, {"ones", ones}, {"strange", strange()}, {"New's but for one bit", changed}}
}

func rowsToSum() [][]byte {
	all := make([]byte, 256)
	for i := range all {
		all[i] = byte(i)
	}
	rows := [][]byte{nil, {}, {0}, {255}, {0, 0, 0, 0}, {255, 255, 255, 255}, []byte("a"), []byte("123456789"), all, make([]byte, 1000), bytes.Repeat([]byte{255}, 1000)}
	for n := 1; n < 20; n++ {
		rows = append(rows, mixed(uint32(n), n))
	}
	return append(rows, mixed(99, 4096), mixed(100, 100000))
}

func starts() []uint32 {
	return []uint32{0, 1, 255, 256, 0x80000000, 0xCBF43926, 0xEDB88320, math.MaxUint32 - 1, math.MaxUint32}
}

func TestNewHasTheEntriesOfTheRule(t *testing.T) {
	x := crc.New()
	for i := range x {
		if x[i] != slowEntry(i) {
			t.Errorf("entry %d is %08x, not %08x", i, x[i], slowEntry(i))
		}
	}
	for i, want := range map[int]uint32{0: 0, 1: 0x77073096, 2: 0xEE0E612C, 128: 0xEDB88320, 255: 0x2D02EF8D} {
		if x[i] != want {
			t.Errorf("entry %d is %08x, not %08x", i, x[i], want)
		}
	}
	if x != crc.Table(*crc32.IEEETable) {
		t.Error("not the library's table")
	}
}

func TestNewIsTheCallersOwn(t *testing.T) {
	x := crc.New()
	for i := range x {
		x[i] = 5
	}
	if y := crc.New(); y == x || y[1] != 0x77073096 {
		t.Error("one table that is changed is seen in another one")
	}
}

func TestExamples(t *testing.T) {
	x := crc.New()
	if n := x.Sum([]byte("123456789")); n != 0xCBF43926 {
		t.Errorf("Sum %08x", n)
	}
	if a, b := x.Sum(nil), x.Sum([]byte{}); a != 0 || b != 0 {
		t.Errorf("Sum of none %08x %08x", a, b)
	}
	if n := x.Row([]byte("1234"), []byte("56789")); n != 0xCBF43926 {
		t.Errorf("Row %08x", n)
	}
}

func TestSumIsTheLibrarys(t *testing.T) {
	x := crc.New()
	for _, b := range rowsToSum() {
		if got, want := x.Sum(b), crc32.ChecksumIEEE(b); got != want {
			t.Errorf("%d bytes: %08x, not %08x", len(b), got, want)
		}
		for _, s := range starts() {
			if got, want := x.More(s, b), crc32.Update(s, crc32.IEEETable, b); got != want {
				t.Errorf("%d bytes from %08x: %08x, not %08x", len(b), s, got, want)
			}
		}
	}
}

func TestMoreAndSumOfAnyTable(t *testing.T) {
	for _, x := range tables() {
		for _, b := range rowsToSum() {
			for _, s := range starts() {
				if got, want := x.table.More(s, b), slowMore(x.table, s, b); got != want {
					t.Errorf("%s: %d bytes from %08x: %08x, not %08x", x.name, len(b), s, got, want)
				}
			}
			if got, want := x.table.Sum(b), slowMore(x.table, 0, b); got != want {
				t.Errorf("%s: %d bytes: %08x, not %08x", x.name, len(b), got, want)
			}
		}
	}
}

func TestMoreOfNoBytesIsWhatItWentOnFrom(t *testing.T) {
	for _, x := range tables() {
		for _, s := range starts() {
			if a, b := x.table.More(s, nil), x.table.More(s, []byte{}); a != s || b != s {
				t.Errorf("%s: from %08x: %08x %08x", x.name, s, a, b)
			}
		}
	}
}

func TestMoreGoesOnFromAnotherSum(t *testing.T) {
	b := mixed(3, 300)
	for _, x := range tables() {
		for cut := 0; cut <= len(b); cut++ {
			if got, want := x.table.More(x.table.Sum(b[:cut]), b[cut:]), x.table.Sum(b); got != want {
				t.Errorf("%s: cut at %d: %08x, not %08x", x.name, cut, got, want)
			}
		}
	}
}

func TestRowIsTheSumOfAllRowsOneBehindTheOther(t *testing.T) {
	b := mixed(4, 60)
	cases := [][][]byte{
		nil,
		{},
		{nil},
		{{}, nil, {}},
		{b},
		{nil, b},
		{b, {}},
		{b[:1], b[1:]},
		{b[1:], b[:1]},
		{nil, b[:20], nil, {}, b[20:40], b[40:], nil},
		{b, b, b},
		{{0}, {0, 0}, {0}},
		{[]byte("12"), nil, []byte("3456789")},
	}
	single := make([][]byte, len(b))
	for i := range b {
		single[i] = b[i : i+1]
	}
	cases = append(cases, single)
	for _, x := range tables() {
		for i, rows := range cases {
			if got, want := x.table.Row(rows...), slowMore(x.table, 0, slices.Concat(rows...)); got != want {
				t.Errorf("%s: case %d: %08x, not %08x", x.name, i, got, want)
			}
		}
		if x.table.Row() != 0 {
			t.Errorf("%s: Row of no rows is not 0", x.name)
		}
	}
}

// The order of rows counts: the same bytes in another order are another row.
func TestRowTellsTheOrderOfRows(t *testing.T) {
	x := crc.New()
	if x.Row([]byte("1234"), []byte("56789")) == x.Row([]byte("56789"), []byte("1234")) {
		t.Error("the same sum in either order")
	}
}

func TestOneByteTurnedTurnsTheSum(t *testing.T) {
	x := crc.New()
	for _, plain := range [][]byte{{0}, {255}, []byte("123456789"), make([]byte, 40), mixed(5, 130)} {
		b := slices.Clone(plain)
		want := x.Sum(b)
		for i := range b {
			for c := range 256 {
				b[i] = byte(c)
				if (x.Sum(b) == want) != (b[i] == plain[i]) {
					t.Errorf("%d bytes, byte %d turned to %02x: sum %08x of %08x", len(b), i, c, x.Sum(b), want)
				}
				if x.Row(b[:i], b[i:]) != x.Sum(b) {
					t.Errorf("%d bytes, byte %d turned to %02x: Row has another sum", len(b), i, c)
				}
			}
			b[i] = plain[i]
		}
	}
	long := mixed(6, 4096)
	want := x.Sum(long)
	for i := range long {
		for _, turn := range []byte{1, 128, 255} {
			long[i] ^= turn
			if x.Sum(long) == want {
				t.Errorf("4096 bytes, byte %d turned by %02x: the same sum", i, turn)
			}
			long[i] ^= turn
		}
	}
}

// What is turned is seen from whatever sum the bytes go on.
func TestOneByteTurnedTurnsTheSumThatGoesOn(t *testing.T) {
	x := crc.New()
	plain := []byte("abc")
	for _, s := range starts() {
		want := x.More(s, plain)
		for i := range plain {
			for c := range 256 {
				b := slices.Clone(plain)
				b[i] = byte(c)
				if (x.More(s, b) == want) != (b[i] == plain[i]) {
					t.Errorf("from %08x, byte %d turned to %02x", s, i, c)
				}
			}
		}
	}
}

func TestWhatIsHandedInStays(t *testing.T) {
	for _, x := range tables() {
		table := x.table
		room := mixed(7, 64)
		b := room[8:40:64]
		before := slices.Clone(room)
		rows := make([][]byte, 3, 5)
		rows[0], rows[1], rows[2] = b, nil, b[:3]
		first := table.Row(rows...)
		sum, more := table.Sum(b), table.More(9, b)
		if !bytes.Equal(room, before) || table != x.table {
			t.Errorf("%s: bytes or table changed", x.name)
		}
		if &rows[0][0] != &b[0] || len(rows[0]) != 32 || rows[1] != nil || len(rows[2]) != 3 || rows[:5][3] != nil || rows[:5][4] != nil {
			t.Errorf("%s: the list of rows changed", x.name)
		}
		if table.Row(rows...) != first || table.Sum(b) != sum || table.More(9, b) != more {
			t.Errorf("%s: another answer the second time", x.name)
		}
	}
}
