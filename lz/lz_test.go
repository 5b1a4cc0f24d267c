package lz_test

import (
	"bytes"
	"math"
	"strings"
	"testing"

	"lamella/api"
	"lamella/lz"
)

// mixed is n bytes of an alphabet of so many letters, the same ones in each run of the tests.
func mixed(seed uint32, n, letters int) []byte {
	b := make([]byte, n)
	for i := range b {
		seed = seed*1664525 + 1013904223
		b[i] = byte(int(seed>>16) % letters)
	}
	return b
}

// plain is n bytes (up to 256 of one row, several rows) in which no three stand twice.
func plain(t *testing.T, n int) []byte {
	t.Helper()
	b := make([]byte, 0, n)
	for step := 1; len(b) < n; step += 2 { // an odd step goes through all 256 bytes
		for i := 0; i < 256 && len(b) < n; i++ {
			b = append(b, byte(i*step))
		}
	}
	seen := map[string]bool{}
	for i := 0; i+3 <= n; i++ {
		if s := string(b[i : i+3]); seen[s] {
			t.Fatalf("three bytes twice at %d", i)
		} else {
			seen[s] = true
		}
	}
	return b
}

// slowMatch is P1.1 word by word.
func slowMatch(b []byte, at int) (length, back int) {
	if at < 0 || at >= len(b) {
		return 0, 0
	}
	for d := 1; d <= 256 && d <= at; d++ {
		n := 0
		for n < 130 && at+n < len(b) && b[at+n] == b[at+n-d] {
			n++
		}
		if n > length {
			length, back = n, d
		}
	}
	if length < 3 {
		return 0, 0
	}
	return length, back
}

// slowPack is P1.2 word by word.
func slowPack(b []byte) []byte {
	var out, run []byte
	tell := func() {
		for len(run) > 0 {
			n := min(len(run), 128)
			out = append(append(out, byte(n-1)), run[:n]...)
			run = run[n:]
		}
	}
	for at := 0; at < len(b); {
		n, back := slowMatch(b, at)
		if n == 0 {
			run = append(run, b[at])
			at++
			continue
		}
		tell()
		out = append(out, byte(n+125), byte(back-1))
		at += n
	}
	tell()
	return out
}

// slowUnpack is P1.3 word by word.
func slowUnpack(b []byte, most int) ([]byte, api.Errno) {
	if most < 0 {
		return nil, api.ErrArg
	}
	var out []byte
	for i := 0; i < len(b); {
		t := int(b[i])
		i++
		if t < 128 {
			if i+t+1 > len(b) {
				return nil, api.ErrCorrupt
			}
			out = append(out, b[i:i+t+1]...)
			i += t + 1
		} else {
			if i == len(b) || int(b[i])+1 > len(out) {
				return nil, api.ErrCorrupt
			}
			for range t - 125 {
				out = append(out, out[len(out)-int(b[i])-1])
			}
			i++
		}
		if len(out) > most {
			return nil, api.ErrBig
		}
	}
	return out, api.OK
}

func join(parts ...string) []byte { return []byte(strings.Join(parts, "")) }

func TestMatchTable(t *testing.T) {
	wide := string(plain(t, 400))
	zeros := strings.Repeat("\x00", 600)
	for _, x := range []struct {
		why          string
		b            []byte
		at           int
		length, back int
	}{
		{"no bytes", nil, 0, 0, 0},
		{"the first place", []byte("aaaaaa"), 0, 0, 0},
		{"below the first place", []byte("aaaaaa"), -1, 0, 0},
		{"far below", []byte("aaaaaa"), math.MinInt, 0, 0},
		{"behind the last place", []byte("aaaaaa"), 6, 0, 0},
		{"far behind", []byte("aaaaaa"), math.MaxInt, 0, 0},
		{"MinMatch less one", []byte("abxabyab"), 3, 0, 0},
		{"MinMatch", []byte("abcxabcy"), 4, 3, 4},
		{"MinMatch at the end", []byte("abcxabc"), 4, 3, 4},
		{"two bytes are left", []byte("abcxabc"), 5, 0, 0},
		{"one byte is left", []byte("aaaa"), 3, 0, 0},
		{"over what it lays down", []byte("abababababa"), 2, 9, 2},
		{"the whole of it is one byte", []byte("aaaaaaa"), 1, 6, 1},
		{"the nearest of the longest", []byte("abc1abc2abc3abc"), 12, 3, 4},
		{"a farther one that is longer", []byte("abcd1abc2abcd"), 9, 4, 9},
		{"a nearer one that is longer", []byte("abc1abcd2abcd"), 9, 4, 5},
		{"the nearest of two that are longest", []byte("abcd1abcd2abc3abcd"), 14, 4, 9},
		{"MaxMatch less one", join(wide[:129], "\x00\xff", wide[:129], "\x01"), 131, 129, 131},
		{"MaxMatch", join(wide[:130], "\x00\xff", wide[:130], "\x01"), 132, 130, 132},
		{"more than MaxMatch", join(wide[:140], "\x00\xff", wide[:140]), 142, 130, 142},
		{"the nearest, both longer than MaxMatch", []byte(zeros), 300, 130, 1},
		{"as many as there are, below MaxMatch", []byte(zeros), 600 - 129, 129, 1},
		{"as many as there are, MaxMatch", []byte(zeros), 600 - 130, 130, 1},
		{"Window less one", join("zyx", wide[:252], "zyx"), 255, 3, 255},
		{"Window", join("zyx", wide[:253], "zyx"), 256, 3, 256},
		{"Window and one", join("zyx", wide[:254], "zyx"), 257, 0, 0},
		{"the nearest, one beyond Window is longer", join("zyxw", wide[:200], "zyx", wide[300:350], "zyxw"), 257, 3, 53},
		{"more than MaxPlain bytes", join(strings.Repeat("ab", 4000), "c", "abab"), 8001, 4, 5},
	} {
		if n, back := lz.Match(x.b, x.at); n != x.length || back != x.back {
			t.Errorf("%s: %d %d, not %d %d", x.why, n, back, x.length, x.back)
		}
	}
}

func TestMatchIsTheRule(t *testing.T) {
	for _, letters := range []int{1, 2, 3, 5, 256} {
		b := mixed(uint32(letters), 700, letters)
		copy(b[400:600], b[150:350])
		for at := -2; at < len(b)+2; at++ {
			n, back := lz.Match(b, at)
			if wn, wb := slowMatch(b, at); n != wn || back != wb {
				t.Fatalf("%d letters at %d: %d %d, not %d %d", letters, at, n, back, wn, wb)
			}
		}
	}
}

func TestPackTable(t *testing.T) {
	wide := string(plain(t, 300))
	for _, x := range []struct{ why, in, want string }{
		{"nothing", "", ""},
		{"a byte", "a", "\x00a"},
		{"below MinMatch", "aaa", "\x02aaa"},
		{"MinMatch", "aaaa", "\x00a\x80\x00"},
		{"the chapter's", "abcabcabcd", "\x02abc\x83\x02\x00d"},
		{"runs between copies", "abcdxabcdyabcd", "\x04abcdx\x81\x04\x00y\x81\x04"},
		{"copies side by side", "abcdefgabcefg", "\x06abcdefg\x80\x06\x80\x05"},
		{"MaxMatch", strings.Repeat("a", 131), "\x00a\xff\x00"},
		{"MaxMatch, a run behind", strings.Repeat("a", 133), "\x00a\xff\x00\x01aa"},
		{"MaxMatch, a copy behind", strings.Repeat("a", 134), "\x00a\xff\x00\x80\x00"},
		{"MaxRun less one", wide[:127], "\x7e" + wide[:127]},
		{"MaxRun", wide[:128], "\x7f" + wide[:128]},
		{"MaxRun and one", wide[:129], "\x7f" + wide[:128] + "\x00" + wide[128:129]},
		{"MaxRun twice", wide[:256], "\x7f" + wide[:128] + "\x7f" + wide[128:256]},
		{"MaxRun twice and one", wide[:257], "\x7f" + wide[:128] + "\x7f" + wide[128:256] + "\x00" + wide[256:257]},
		{"MaxRun and a copy", wide[:128] + wide[:3], "\x7f" + wide[:128] + "\x80\x7f"},
		{"Window", "zyx" + wide[:253] + "zyx", "\x7fzyx" + wide[:125] + "\x7f" + wide[125:253] + "\x80\xff"},
		{"Window and one", "zyx" + wide[:254] + "zyx", "\x7fzyx" + wide[:125] + "\x7f" + wide[125:253] + "\x03" + wide[253:254] + "zyx"},
	} {
		if b, e := lz.Pack([]byte(x.in)); string(b) != x.want || e != api.OK {
			t.Errorf("%s: % x %d, not % x", x.why, b, e, x.want)
		}
	}
}

func TestPackBound(t *testing.T) {
	if b, e := lz.Pack(make([]byte, api.MaxPlain)); e != api.OK || len(b) == 0 {
		t.Error(len(b), e)
	}
	for _, n := range []int{api.MaxPlain + 1, 3 * api.MaxPlain} {
		if b, e := lz.Pack(make([]byte, n)); e != api.ErrBig || b != nil {
			t.Error(n, len(b), e)
		}
	}
}

func TestPackIsTheRule(t *testing.T) {
	for _, letters := range []int{1, 2, 3, 4, 7, 16, 256} {
		for i, n := range []int{5, 64, 127, 128, 129, 255, 256, 257, 300, 1000, 4095, 4096} {
			b := mixed(uint32(letters*100+i), n, letters)
			copy(b[n/2:], b[n/3:n/2])
			if p, e := lz.Pack(b); !bytes.Equal(p, slowPack(b)) || e != api.OK {
				t.Errorf("%d letters, %d bytes: %d", letters, n, e)
			}
		}
	}
}

func TestUnpackTable(t *testing.T) {
	for _, x := range []struct {
		why, b string
		most   int
		want   string
		e      api.Errno
	}{
		{"nothing", "", 0, "", api.OK},
		{"most below 0", "", -1, "", api.ErrArg},
		{"most far below 0", "\x00a", math.MinInt, "", api.ErrArg},
		{"most below 0, and no tokens", "\x80", -1, "", api.ErrArg},
		{"the chapter's", "\x02abc\x83\x02\x00d", 10, "abcabcabcd", api.OK},
		{"the chapter's, a byte less of room", "\x02abc\x83\x02\x00d", 9, "", api.ErrBig},
		{"the chapter's, no byte ahead", "\x80\x00", 9, "", api.ErrCorrupt},
		{"room without end", "\x02abc\x83\x02\x00d", math.MaxInt, "abcabcabcd", api.OK},
		{"a run, just enough room", "\x01ab", 2, "ab", api.OK},
		{"a run, a byte less", "\x01ab", 1, "", api.ErrBig},
		{"no room", "\x00a", 0, "", api.ErrBig},
		{"a copy, just enough room", "\x00a\x80\x00", 4, "aaaa", api.OK},
		{"a copy, a byte less", "\x00a\x80\x00", 3, "", api.ErrBig},
		{"a copy over what it lays down", "\x01ab\x82\x01", 99, "abababa", api.OK},
		{"the longest copy", "\x00a\xff\x00", 131, strings.Repeat("a", 131), api.OK},
		{"the longest copy, a byte less", "\x00a\xff\x00", 130, "", api.ErrBig},
		{"a copy from the first byte", "\x02abc\x80\x02", 9, "abcabc", api.OK},
		{"a copy from ahead of the first byte", "\x02abc\x80\x03", 9, "", api.ErrCorrupt},
		{"the longest run", "\x7f" + strings.Repeat("q", 128), 128, strings.Repeat("q", 128), api.OK},
		{"the longest run, not whole", "\x7f" + strings.Repeat("q", 127), 128, "", api.ErrCorrupt},
		{"a run without bytes", "\x00", 9, "", api.ErrCorrupt},
		{"a run that is not whole", "\x01a", 9, "", api.ErrCorrupt},
		{"a copy that is not whole", "\x00a\x80", 9, "", api.ErrCorrupt},
		{"a copy alone that is not whole", "\x80", 9, "", api.ErrCorrupt},
		{"a byte behind the tokens", "\x00a\x05", 9, "", api.ErrCorrupt},
		{"too big, then corrupt", "\x02abc\x80\x09", 2, "", api.ErrBig},
		{"corrupt, then too big", "\x80\x00\x02abc", 2, "", api.ErrCorrupt},
		{"one run, both", "\x05abc", 2, "", api.ErrCorrupt},
		{"one copy, both", "\x00a\xff\x01", 2, "", api.ErrCorrupt},
		{"one copy that is not whole, both", "\x00a\xff", 1, "", api.ErrCorrupt},
		{"runs side by side", "\x00a\x00b", 2, "ab", api.OK},
	} {
		b, e := lz.Unpack([]byte(x.b), x.most)
		if string(b) != x.want || e != x.e {
			t.Errorf("%s: %q %d, not %q %d", x.why, b, e, x.want, x.e)
		}
		if e != api.OK && b != nil {
			t.Errorf("%s: bytes beside an error", x.why)
		}
	}
}

func TestUnpackReachesWindow(t *testing.T) {
	head := plain(t, 256)
	packed := append([]byte{127}, head[:128]...)
	packed = append(append(packed, 127), head[128:]...)
	packed = append(packed, 0x80, 0xff)
	if b, e := lz.Unpack(packed, 259); e != api.OK || !bytes.Equal(b[256:], head[:3]) {
		t.Error(b, e)
	}
	if b, e := lz.Unpack(packed, 258); e != api.ErrBig || b != nil {
		t.Error(b, e)
	}
}

func TestUnpackIsTheRule(t *testing.T) {
	for seed := range 4000 {
		b := mixed(uint32(seed), seed%40, 256)
		for i := range b {
			if i%3 != 0 {
				b[i] %= 6 // short runs and near copies, or few would go on
			}
		}
		for _, most := range []int{-1, 0, 1, 5, 100, 2000, math.MaxInt} {
			p, e := lz.Unpack(b, most)
			if w, we := slowUnpack(b, most); !bytes.Equal(p, w) || e != we {
				t.Fatalf("% x of %d: %d, not %d", b, most, e, we)
			}
		}
	}
}

// packsBack holds P1.4 of these bytes: they come back, in just their room and in no less, from no more bytes than is said.
func packsBack(t *testing.T, b []byte) {
	t.Helper()
	p, e := lz.Pack(b)
	if e != api.OK || len(p) > len(b)+(len(b)+127)/128 {
		t.Fatalf("%d bytes: %d packed, %d", len(b), len(p), e)
	}
	if c, e := lz.Unpack(p, len(b)); e != api.OK || !bytes.Equal(c, b) {
		t.Fatalf("%d bytes: not as they were, %d", len(b), e)
	}
	if len(b) == 0 {
		return
	}
	if c, e := lz.Unpack(p, len(b)-1); e != api.ErrBig || c != nil {
		t.Fatalf("%d bytes in less room: %d", len(b), e)
	}
}

func TestAllShortOnesComeBack(t *testing.T) {
	var grow func(b []byte)
	grow = func(b []byte) {
		packsBack(t, b)
		if len(b) < 9 {
			for _, c := range []byte("abc") {
				grow(append(b, c))
			}
		}
	}
	grow(nil)
}

func TestLongOnesComeBack(t *testing.T) {
	for _, letters := range []int{1, 2, 3, 8, 40, 256} {
		for n := 0; n <= api.MaxPlain; n += 1 + n/9 {
			packsBack(t, mixed(uint32(n+letters), n, letters))
		}
		packsBack(t, mixed(uint32(letters), api.MaxPlain, letters))
	}
}

func TestPackedLength(t *testing.T) {
	wide := plain(t, api.MaxPlain)
	for _, x := range [][2]int{{0, 0}, {1, 2}, {128, 129}, {129, 131}, {256, 258}, {257, 260}, {4096, 4128}} {
		if p, e := lz.Pack(wide[:x[0]]); len(p) != x[1] || e != api.OK {
			t.Errorf("%d bytes: %d, not %d, %d", x[0], len(p), x[1], e)
		}
		packsBack(t, wide[:x[0]])
	}
	var broken []byte // a new byte, then a copy of three: a copy saves no more than the run behind it costs
	for i := range 500 {
		broken = append(append(broken, byte(i*7+3)), "abc"...)
	}
	packsBack(t, broken)
}

func TestArgumentsStay(t *testing.T) {
	room := []byte("abcabcabcabcd-spare-room")
	was := string(room)
	in := room[:13]
	p, _ := lz.Pack(in)
	lz.Match(in, 3)
	if string(room) != was {
		t.Errorf("%q", room)
	}
	packed := append(append([]byte{}, p...), "-spare-room"...)
	was = string(packed)
	c, e := lz.Unpack(packed[:len(p)], 13)
	if string(packed) != was || e != api.OK {
		t.Errorf("%q %d", packed, e)
	}
	for i := range packed {
		packed[i] = 0
	}
	for i := range room {
		room[i] = 0
	}
	if string(c) != "abcabcabcabcd" {
		t.Errorf("what was answered hangs on an argument: %q", c)
	}
	if d, e := lz.Unpack(p, 13); string(d) != "abcabcabcabcd" || e != api.OK {
		t.Errorf("what was answered hangs on an argument: %q %d", d, e)
	}
}
