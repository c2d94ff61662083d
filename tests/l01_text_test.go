package tests

import (
	"bytes"
	"math"
	"slices"
	"strings"
	"testing"

	"loop.example/g03414/impl"
)

func TestFormatInt(t *testing.T) {
	cases := []struct {
		n    int
		want string
	}{
		{0, "0"},
		{7, "7"},
		{-1, "-1"},
		{-120, "-120"},
		{impl.MaxInt, "999999999"},
		{-impl.MaxInt, "-999999999"},
		{impl.MaxInt + 1, "1000000000"},
		{-impl.MaxInt - 1, "-1000000000"},
		{math.MaxInt, "9223372036854775807"},
		{math.MinInt, "-9223372036854775808"},
	}
	for _, c := range cases {
		if got := impl.FormatInt(c.n); got != c.want {
			t.Errorf("FormatInt(%d) = %q, want %q", c.n, got, c.want)
		}
	}
}

func TestParseIntReadsWhatFormatIntWrites(t *testing.T) {
	check := func(n int) {
		for _, x := range []int{n, -n} {
			if got, ok := impl.ParseInt(impl.FormatInt(x)); !ok || got != x {
				t.Errorf("ParseInt(FormatInt(%d)) = %d, %v", x, got, ok)
			}
		}
	}
	for n := range 2000 {
		check(n)
		check(impl.MaxInt - n)
	}
	for power := 1; power < impl.MaxInt; power *= 10 {
		check(power)
		check(power - 1)
		check(power + 1)
	}
}

func TestParseIntReads(t *testing.T) {
	cases := []struct {
		s    string
		want int
	}{
		{"0", 0},
		{"9", 9},
		{"-5", -5},
		{"1203", 1203},
		{"999999999", impl.MaxInt},
		{"-999999999", -impl.MaxInt},
	}
	for _, c := range cases {
		if got, ok := impl.ParseInt(c.s); !ok || got != c.want {
			t.Errorf("ParseInt(%q) = %d, %v, want %d, true", c.s, got, ok, c.want)
		}
	}
}

func TestParseIntRejects(t *testing.T) {
	cases := []string{
		"", "-", "--1", "+1", "1-", "-0", "00", "01", "-01", "0000000001",
		" 1", "1 ", "1\n", "-\x001", "1.0", "1_0", "0x1", "1e3", "a", "1a", "12/", "12:",
		// numbers of ten digits and more, also ones that overflow an int
		"1000000000", "-1000000000", "9999999999", "-9999999999", "0999999999",
		"9223372036854775808", "18446744073709551616", "18446744073709551617",
		"-18446744073709551617", strings.Repeat("9", 5000), strings.Repeat("0", 5000),
		// digits and signs that are not the ASCII ones, and bytes that are no runes
		"\u0661", "\uff11", "1\u0660", "\u22121", "\xff", "1\xff", "\xb1", "-\xc0",
	}
	for _, s := range cases {
		if got, ok := impl.ParseInt(s); ok || got != 0 {
			t.Errorf("ParseInt(%.40q) = %d, %v, want 0, false", s, got, ok)
		}
	}
}

func TestParseIntReadsNothingElse(t *testing.T) {
	// Every text of up to three of these characters is read as its number or not at all.
	const characters = "0129-+ a\xff"
	texts := []string{""}
	for range 3 {
		for _, s := range slices.Clone(texts) {
			for i := range len(characters) {
				texts = append(texts, s+characters[i:i+1])
			}
		}
	}
	numbers := map[string]int{}
	for n := -99; n <= 999; n++ {
		numbers[impl.FormatInt(n)] = n
	}
	for _, s := range texts {
		want, wantOK := numbers[s]
		if got, ok := impl.ParseInt(s); got != want || ok != wantOK {
			t.Errorf("ParseInt(%q) = %d, %v, want %d, %v", s, got, ok, want, wantOK)
		}
	}
}

func TestSplitText(t *testing.T) {
	cases := []struct {
		s    string
		by   byte
		want []string
	}{
		{"", ' ', []string{""}},
		{"a", ' ', []string{"a"}},
		{"a b c", ' ', []string{"a", "b", "c"}},
		{"a||b", '|', []string{"a", "", "b"}},
		{"|", '|', []string{"", ""}},
		{"|a|", '|', []string{"", "a", ""}},
		{"|||", '|', []string{"", "", "", ""}},
		{"a b", '|', []string{"a b"}},
		{"a\x00b", 0, []string{"a", "b"}},
		{"aAa", 'A', []string{"a", "a"}},
		{"\u00e9,\u00e8", ',', []string{"\u00e9", "\u00e8"}},
		// parts are bytes: a byte within a rune, and bytes of no rune
		{"\u00e9\u00e9", 0xc3, []string{"", "\xa9", "\xa9"}},
		{"\u00e9x", 0xa9, []string{"\xc3", "x"}},
		{"a\xffb\xff", 0xff, []string{"a", "b", ""}},
		{"\xfe,\xff", ',', []string{"\xfe", "\xff"}},
		// the byte, not the rune of this number, nor the one that stands for invalid bytes
		{"\u00ff", 0xff, []string{"\u00ff"}},
		{"\xff", 0xfd, []string{"\xff"}},
	}
	for _, c := range cases {
		if got := impl.SplitText(c.s, c.by); !slices.Equal(got, c.want) {
			t.Errorf("SplitText(%q, %d) = %q, want %q", c.s, c.by, got, c.want)
		}
	}
}

func TestJoinText(t *testing.T) {
	cases := []struct {
		l    []string
		by   string
		want string
	}{
		{nil, ", ", ""},
		{[]string{}, ", ", ""},
		{[]string{""}, ", ", ""},
		{[]string{"a"}, ", ", "a"},
		{[]string{"", ""}, "-", "-"},
		{[]string{"a", "", "b"}, "-", "a--b"},
		{[]string{"", "a", ""}, "-", "-a-"},
		{[]string{"a", "b", "c"}, " | ", "a | b | c"},
		{[]string{"a", "b", "c"}, "", "abc"},
		{[]string{"\xff", "\xfe\x00"}, "\xc3", "\xff\xc3\xfe\x00"},
	}
	for _, c := range cases {
		before := slices.Clone(c.l)
		if got := impl.JoinText(c.l, c.by); got != c.want {
			t.Errorf("JoinText(%q, %q) = %q, want %q", c.l, c.by, got, c.want)
		}
		if !slices.Equal(c.l, before) {
			t.Errorf("JoinText changed %q to %q", before, c.l)
		}
	}
}

func TestJoinTextLeavesUnusedCapacity(t *testing.T) {
	all := []string{"a", "b", "c"}
	if got := impl.JoinText(all[:1], "-"); got != "a" {
		t.Errorf("JoinText = %q, want %q", got, "a")
	}
	if !slices.Equal(all, []string{"a", "b", "c"}) {
		t.Errorf("JoinText changed the list to %q", all)
	}
}

func TestPartsAreReadAsTheyWere(t *testing.T) {
	lists := [][]string{
		{""},
		{"", ""},
		{"a"},
		{"a", "", "bc", "\u00e9\xff"},
		{"", "", "x", ""},
	}
	for _, by := range []byte{0, ' ', '|', '\n', 0x80, 0xfe} {
		for _, l := range lists {
			got := impl.SplitText(impl.JoinText(l, string([]byte{by})), by)
			if !slices.Equal(got, l) {
				t.Errorf("parts of %q joined by %d are %q", l, by, got)
			}
		}
	}
	for _, s := range []string{"", "ab", "a b", "  ", " \xff \u00e9 "} {
		for by := range 256 {
			b := byte(by)
			parts := impl.SplitText(s, b)
			if want := strings.Count(s, string([]byte{b})) + 1; len(parts) != want {
				t.Errorf("SplitText(%q, %d) has %d parts, want %d", s, b, len(parts), want)
			}
			if got := impl.JoinText(parts, string([]byte{b})); got != s {
				t.Errorf("%q split at %d is joined to %q", s, b, got)
			}
		}
	}
}

func TestFormatHex(t *testing.T) {
	cases := []struct {
		b    []byte
		want string
	}{
		{nil, ""},
		{[]byte{}, ""},
		{[]byte{0}, "00"},
		{[]byte{9}, "09"},
		{[]byte{10}, "0a"},
		{[]byte{0, 255, 16}, "00ff10"},
		{[]byte{0x12, 0x34, 0x56, 0x78, 0x9a, 0xbc, 0xde, 0xf0}, "123456789abcdef0"},
	}
	for _, c := range cases {
		if got := impl.FormatHex(c.b); got != c.want {
			t.Errorf("FormatHex(%v) = %q, want %q", c.b, got, c.want)
		}
	}
}

func TestHexLimit(t *testing.T) {
	most := bytes.Repeat([]byte{0xa5}, impl.MaxHex)
	s := impl.FormatHex(most)
	if s != strings.Repeat("a5", impl.MaxHex) {
		t.Errorf("FormatHex of MaxHex bytes has %d characters", len(s))
	}
	if got, ok := impl.ParseHex(s); !ok || !bytes.Equal(got, most) {
		t.Errorf("ParseHex of MaxHex bytes returns %d bytes, %v", len(got), ok)
	}
	if got := impl.FormatHex(append(most, 0)); got != "" {
		t.Errorf("FormatHex of MaxHex + 1 bytes has %d characters, want none", len(got))
	}
	for _, more := range []string{"0", "00", s} {
		if got, ok := impl.ParseHex(s + more); ok || len(got) != 0 {
			t.Errorf("ParseHex of %d digits returns %d bytes, %v", len(s+more), len(got), ok)
		}
	}
}

func TestBytesAreReadAsTheyWere(t *testing.T) {
	for x := range 256 {
		for _, b := range [][]byte{{byte(x)}, {byte(x), 0}, {1, byte(x)}, {byte(x), byte(255 - x), byte(x)}} {
			before := bytes.Clone(b)
			got, ok := impl.ParseHex(impl.FormatHex(b))
			if !ok || !bytes.Equal(got, before) {
				t.Errorf("ParseHex(FormatHex(%v)) = %v, %v", before, got, ok)
			}
			if !bytes.Equal(b, before) {
				t.Errorf("FormatHex changed %v to %v", before, b)
			}
		}
	}
	if got, ok := impl.ParseHex(""); !ok || len(got) != 0 {
		t.Errorf("ParseHex(\"\") = %v, %v, want no bytes and true", got, ok)
	}
}

func TestParseHexReadsNothingElse(t *testing.T) {
	formats := map[string]byte{}
	for x := range 256 {
		formats[impl.FormatHex([]byte{byte(x)})] = byte(x)
	}
	for high := range 256 {
		for low := range 256 {
			s := string([]byte{byte(high), byte(low)})
			want, wantOK := formats[s]
			got, ok := impl.ParseHex(s)
			if ok != wantOK || ok && !bytes.Equal(got, []byte{want}) || !ok && len(got) != 0 {
				t.Errorf("ParseHex(%q) = %v, %v", s, got, ok)
			}
		}
	}
}

func TestParseHexRejects(t *testing.T) {
	cases := []string{
		"0", "f", "000", "00f", "0G", "0g", "g0", "A0", "aA", "FF", "0x00", "00 ", " 00", "00 11",
		"-1", "+1", "0:", "0/", "0`", "00\n0", "0011zz", "zz0011", "001z22",
		// digits that are no ASCII ones, and bytes that are no runes, in an even number of bytes
		"\u0661", "\u0661\u0661", "0\uff11", "\xff\xff", "0\xff", "\xff0", "0\xb1", "\u00e9",
	}
	for _, s := range cases {
		if got, ok := impl.ParseHex(s); ok || len(got) != 0 {
			t.Errorf("ParseHex(%q) = %v, %v, want no bytes and false", s, got, ok)
		}
	}
}
