package tests

import (
	"math/rand"
	"reflect"
	"slices"
	"strings"
	"testing"

	"loop.example/g03414/impl"
)

// typing is a code with modifiers.
type typing struct{ code, mods int }

// charsOfKeys has the characters, with the codes and modifiers that give them, by the text of the document.
func charsOfKeys() map[typing]string {
	chars := map[typing]string{}
	both := func(name string, plain string, shifted string) {
		code := slices.Index(namesInOrder, name) + 1
		chars[typing{code, 0}], chars[typing{code, impl.ModShift}] = plain, shifted
	}
	for _, name := range namesInOrder[:26] {
		both(name, name, strings.ToUpper(name))
	}
	for i, name := range namesInOrder[26:36] {
		both(name, name, string("!@#$%^&*()"[i]))
	}
	both("enter", "\n", "\n")
	both("tab", "\t", "\t")
	both("space", " ", " ")
	both("minus", "-", "_")
	both("equal", "=", "+")
	return chars
}

var charsByTheText = charsOfKeys()

// typable has all characters that some key gives, ascending.
const typable = "\t\n !#$%&()*+-0123456789=@ABCDEFGHIJKLMNOPQRSTUVWXYZ^_abcdefghijklmnopqrstuvwxyz"

// keyByTheText returns the least code for a character, without modifiers if there is one.
func keyByTheText(char byte) typing {
	for _, mods := range []int{0, impl.ModShift} {
		for code := 1; code <= 56; code++ {
			if charsByTheText[typing{code, mods}] == string([]byte{char}) {
				return typing{code, mods}
			}
		}
	}
	return typing{}
}

// keysByTheText fails if a byte of the text has no key.
func keysByTheText(s string) ([]typing, bool) {
	var keys []typing
	for _, char := range []byte(s) {
		key := keyByTheText(char)
		if key.code == 0 {
			return nil, false
		}
		keys = append(keys, key)
	}
	return keys, true
}

func newKeysByTheText(last impl.Report, r impl.Report) []int {
	var keys []int
	if isReportByTheText(last) && isReportByTheText(r) {
		for code := 1; code <= 56; code++ {
			if slices.Contains(r.Keys, code) && !slices.Contains(last.Keys, code) {
				keys = append(keys, code)
			}
		}
	}
	return keys
}

func typedByTheText(last impl.Report, l []impl.Report) string {
	text := ""
	for i, r := range l {
		before := append([]impl.Report{last}, l...)[i]
		for _, code := range newKeysByTheText(before, r) {
			text += charsByTheText[typing{code, r.Mods}]
		}
	}
	return text
}

func checkTyped(t *testing.T, last impl.Report, l []impl.Report, want string) {
	t.Helper()
	if got := impl.TypedText(last, l); got != want {
		t.Fatalf("TypedText(%v, %v) = %q, want %q", last, l, got, want)
	}
}

// reportsOf returns the reports of these formats.
func reportsOf(t *testing.T, texts string) []impl.Report {
	t.Helper()
	l := []impl.Report{}
	for _, s := range strings.Fields(texts) {
		r, ok := reportOfText(s)
		if !ok {
			t.Fatalf("%q is no report", s)
		}
		l = append(l, r)
	}
	return l
}

func TestCharOf(t *testing.T) {
	for _, c := range []struct {
		name  string
		plain string
		shift string
	}{
		{"a", "a", "A"}, {"b", "b", "B"}, {"m", "m", "M"}, {"y", "y", "Y"}, {"z", "z", "Z"},
		{"1", "1", "!"}, {"2", "2", "@"}, {"3", "3", "#"}, {"4", "4", "$"}, {"5", "5", "%"},
		{"6", "6", "^"}, {"7", "7", "&"}, {"8", "8", "*"}, {"9", "9", "("}, {"0", "0", ")"},
		{"enter", "\n", "\n"}, {"tab", "\t", "\t"}, {"space", " ", " "}, {"minus", "-", "_"}, {"equal", "=", "+"},
		{"esc", "", ""}, {"back", "", ""}, {"left", "", ""}, {"right", "", ""}, {"up", "", ""}, {"down", "", ""},
		{"f1", "", ""}, {"f2", "", ""}, {"f8", "", ""}, {"f9", "", ""},
	} {
		code := slices.Index(namesInOrder, c.name) + 1
		if got := impl.CharOf(code, 0); got != c.plain {
			t.Errorf("CharOf(%d, 0) of %s = %q, want %q", code, c.name, got, c.plain)
		}
		if got := impl.CharOf(code, impl.ModShift); got != c.shift {
			t.Errorf("CharOf(%d, ModShift) of %s = %q, want %q", code, c.name, got, c.shift)
		}
		// Together with ctrl, alt or gui a key gives no character, with shift or without.
		for mods := range 16 {
			if got := impl.CharOf(code, mods); mods&^impl.ModShift != 0 && got != "" {
				t.Errorf("CharOf(%d, %d) of %s = %q, want none", code, mods, c.name, got)
			}
		}
	}
}

func TestCharOfOfEachCode(t *testing.T) {
	codes := append([]int{64, 255, 256, 257, 1<<32 + 2}, noNumbers...)
	for code := -80; code <= 130; code++ {
		codes = append(codes, code)
	}
	allMods := append([]int{255, 256, 258, 1<<32 + 2}, noNumbers...)
	for mods := -40; mods <= 70; mods++ {
		allMods = append(allMods, mods)
	}
	count := 0
	for _, code := range codes {
		for _, mods := range allMods {
			got := impl.CharOf(code, mods)
			if want := charsByTheText[typing{code, mods}]; got != want {
				t.Fatalf("CharOf(%d, %d) = %q, want %q", code, mods, got, want)
			}
			if got != "" {
				count++
			}
		}
	}
	// 26 letters, 10 digits and 5 others, each twice.
	if count != 82 {
		t.Errorf("CharOf gives a character %d times, want 82", count)
	}
}

func TestKeyOf(t *testing.T) {
	for char, want := range map[byte]typing{
		'a': {1, 0}, 'z': {26, 0}, 'A': {1, 2}, 'Z': {26, 2},
		'1': {27, 0}, '9': {35, 0}, '0': {36, 0}, '!': {27, 2}, '(': {35, 2}, ')': {36, 2}, '@': {28, 2}, '^': {32, 2},
		'-': {42, 0}, '_': {42, 2}, '=': {43, 0}, '+': {43, 2},
		// with shift they give the same
		'\n': {37, 0}, '\t': {40, 0}, ' ': {41, 0},
		0: {}, 1: {}, 27: {}, '\b': {}, '\r': {}, '\v': {}, '"': {}, '\'': {}, ',': {}, '.': {}, '/': {}, ':': {}, ';': {}, '<': {}, '>': {}, '?': {}, '[': {}, '\\': {}, ']': {}, '`': {}, '{': {}, '|': {}, '}': {}, '~': {}, 127: {}, 128: {}, 0xa0: {}, 0xe9: {}, 255: {},
	} {
		code, mods := impl.KeyOf(char)
		if code != want.code || mods != want.mods {
			t.Errorf("KeyOf(%q) = %d, %d, want %d, %d", char, code, mods, want.code, want.mods)
		}
	}
}

func TestKeyOfOfEachByte(t *testing.T) {
	found := ""
	for char := range 256 {
		code, mods := impl.KeyOf(byte(char))
		if want := keyByTheText(byte(char)); code != want.code || mods != want.mods {
			t.Errorf("KeyOf(%d) = %d, %d, want %d, %d", char, code, mods, want.code, want.mods)
		}
		if code == 0 {
			continue
		}
		text := string([]byte{byte(char)})
		found += text
		if got := impl.CharOf(code, mods); got != text {
			t.Errorf("CharOf(%d, %d) = %q, want %q", code, mods, got, text)
		}
		// Neither a lesser code gives the character with these modifiers, nor any one without, if these are some.
		for other := 1; other <= 56; other++ {
			if other < code && impl.CharOf(other, mods) == text || mods != 0 && impl.CharOf(other, 0) == text {
				t.Errorf("KeyOf(%d) = %d, %d, but code %d gives it, too", char, code, mods, other)
			}
		}
	}
	if found != typable {
		t.Errorf("there are keys for %q, want %q", found, typable)
	}
}

func TestNewKeys(t *testing.T) {
	for _, c := range []struct{ last, r, names string }{
		{":", ":", ""},
		{":", ":a", "a"},
		{":a", ":", ""},
		{":a", ":a", ""},
		{":a", ":b", "b"},
		{":b", ":a", "a"},
		{":a", ":a,b", "b"},
		{":b", ":a,b", "a"},
		{":b", ":a,b,c", "a c"},
		{":a,c", ":a,b,c", "b"},
		{":a,b,c", ":b", ""},
		{":a,b,c", ":b,d,f9", "d f9"},
		{":", ":a,z,1,0,enter,space,f9", "a z 1 0 enter space f9"},
		{":esc", ":esc,left,f1", "left f1"},
		// modifiers are no keys, and do not make a key new
		{":", "CSAG:", ""},
		{":a", "S:a", ""},
		{"S:a", ":a", ""},
		{"S:a", "C:a,b", "b"},
		{"CSAG:", "CSAG:a", "a"},
	} {
		last, r := reportsOf(t, c.last)[0], reportsOf(t, c.r)[0]
		if got, want := impl.NewKeys(last, r), reportOf(t, "", c.names).Keys; !slices.Equal(got, want) {
			t.Errorf("NewKeys(%s, %s) = %v, want %v", c.last, c.r, got, want)
		}
	}
	full := impl.Report{Keys: allCodes(56)}
	for code := 1; code <= 56; code++ {
		one := impl.Report{Mods: code % 16, Keys: []int{code}}
		but := impl.Report{Keys: slices.DeleteFunc(allCodes(56), func(c int) bool { return c == code })}
		if got := impl.NewKeys(impl.Report{}, one); !slices.Equal(got, one.Keys) {
			t.Errorf("NewKeys from none to %v = %v", one, got)
		}
		if got := impl.NewKeys(but, full); !slices.Equal(got, one.Keys) {
			t.Errorf("NewKeys from all but %d to all = %v", code, got)
		}
		if got := impl.NewKeys(one, full); !slices.Equal(got, but.Keys) {
			t.Errorf("NewKeys from %v to all = %v", one, got)
		}
	}
}

func TestNewKeysOfManyReports(t *testing.T) {
	source := rand.New(rand.NewSource(120))
	all := someReports()
	for range 40000 {
		last, r := all[source.Intn(len(all))], all[source.Intn(len(all))]
		if got, want := impl.NewKeys(last, r), newKeysByTheText(last, r); !slices.Equal(got, want) {
			t.Fatalf("NewKeys(%v, %v) = %v, want %v", last, r, got, want)
		}
	}
}

func TestNewKeysOfBadReports(t *testing.T) {
	good := []impl.Report{{}, {Keys: []int{50}}, {Mods: 2, Keys: []int{1, 2, 3}}, {Mods: 15, Keys: allCodes(56)}}
	bad := append(badReports(), impl.Report{Keys: slices.Repeat([]int{1}, 100000)}, impl.Report{Keys: allCodes(100000)})
	for _, b := range bad {
		for _, g := range good {
			if got := impl.NewKeys(b, g); len(got) != 0 {
				t.Errorf("NewKeys(%.80v, %v) = %v, want none", b, g, got)
			}
			if got := impl.NewKeys(g, b); len(got) != 0 {
				t.Errorf("NewKeys(%v, %.80v) = %v, want none", g, b, got)
			}
		}
		if got := impl.NewKeys(b, b); len(got) != 0 {
			t.Errorf("NewKeys of %.80v and itself = %v, want none", b, got)
		}
	}
}

func TestTypedText(t *testing.T) {
	for _, c := range []struct{ last, reports, want string }{
		{":", "", ""},
		{":a", "", ""},
		{":", ":", ""},
		{":", ":a :", "a"},
		{":", ":a", "a"},
		{":", ":a : :a :", "aa"},
		{":", "S:a :", "A"},
		{":", "S: S:h S: : :i :", "Hi"},
		{":", ":1 : S:1 : :0 : S:0 : :minus : S:minus : :equal : S:equal :", "1!0)-_=+"},
		{":", ":tab : S:tab : :enter : S:enter : :space : S:space :", "\t\t\n\n  "},
		// a key that stays is typed once, while others are typed
		{":", ":a :a :a", "a"},
		{":", ":a :a,b :b :", "ab"},
		{":", ":a :a,b :a :", "ab"},
		{":", ":a :a,b :a :a,b :a :", "abb"},
		{":", ":a :a,b :b :a,b :b :", "aba"},
		{":", ":b :a,b :a :", "ba"},
		{":", ":a :a,b :a,b,c :a,c :c :a,c :", "abca"},
		{":", ":f1 :a,f1 :f1 :b,f1 :", "ab"},
		// also if modifiers change meanwhile
		{":", ":a S:a S:a,b :a,b :", "aB"},
		{":", "S:a :a :a,b :", "Ab"},
		{":", ":a S:a :a", "a"},
		{":", "S:a :a S:a S:", "A"},
		{":", "C:a :a :a,b", "b"},
		{":", ":a C:a CS:a,b S:a,b S:a,b,c", "aC"},
		// of several keys that go down at once, the least code comes first
		{":", ":a,b", "ab"},
		{":", "S:a,z,1,0,enter,space,minus", "AZ!)\n _"},
		{":b", ":a,b,c", "ac"},
		// one key follows another without a report between them
		{":", ":a :b :a", "aba"},
		{":", ":a S:b :c", "aBc"},
		// the report before is the one that the host has
		{":a", ":a", ""},
		{":a", ":a,b", "b"},
		{":a", ": :a", "a"},
		{":a", ":b :a", "ba"},
		{"S:a", ":a,b :", "b"},
		{":a,b,c", "S:a,b,c,d", "D"},
		// keys that give no character
		{":", ":esc :esc,f1 :back : :left :right :up :down :f9 :", ""},
		{":", "C:a : A:b : G:c : CS:d : SA:e : SG:f : CSAG:g :", ""},
		{":", "C: C:c C: : :c :", "c"},
		{":", "CSAG: S: : A:", ""},
	} {
		checkTyped(t, reportsOf(t, c.last)[0], reportsOf(t, c.reports), c.want)
	}
}

// While keys are held, others are typed, and those that are held are not typed again.
func TestKeysThatStay(t *testing.T) {
	for stays := 1; stays <= 56; stays++ {
		for code := 1; code <= 56; code++ {
			if code == stays {
				continue
			}
			for _, mods := range []int{0, impl.ModShift, impl.ModCtrl, impl.ModGui | impl.ModShift} {
				one := impl.Report{Keys: []int{stays}}
				two := impl.Report{Mods: mods, Keys: []int{min(stays, code), max(stays, code)}}
				first, next := charsByTheText[typing{stays, 0}], charsByTheText[typing{code, mods}]
				checkTyped(t, impl.Report{}, []impl.Report{one, two, one, {}}, first+next)
				checkTyped(t, impl.Report{}, []impl.Report{one, two, {Mods: mods, Keys: one.Keys}, two, one}, first+next+next)
				checkTyped(t, one, []impl.Report{two, one, two, {}, one}, next+next+first)
				checkTyped(t, two, []impl.Report{one, two, one}, next)
			}
		}
	}
}

// A report that is not valid has no new keys, and neither has the one behind it.
func TestTypedTextOfBadReports(t *testing.T) {
	a, b, none := impl.Report{Keys: []int{1}}, impl.Report{Keys: []int{2}}, impl.Report{}
	for _, bad := range badReports() {
		checkTyped(t, none, []impl.Report{bad}, "")
		checkTyped(t, bad, nil, "")
		checkTyped(t, bad, []impl.Report{a}, "")
		checkTyped(t, bad, []impl.Report{a, b}, "b")
		checkTyped(t, bad, []impl.Report{none, a, bad}, "a")
		checkTyped(t, none, []impl.Report{a, bad, b, a}, "aa")
		checkTyped(t, none, []impl.Report{a, none, bad, bad, none, b}, "ab")
		checkTyped(t, bad, []impl.Report{bad, bad}, "")
	}
}

func TestTypedTextOfManyReports(t *testing.T) {
	source := rand.New(rand.NewSource(121))
	lists := [][]impl.Report{
		someReports(),
		append(badReports(), someReports()...),
		reportsOf(t, ": S: :a :b :a,b S:a S:b S:a,b C:a :1 S:1 :a,1 :space S:a,space"),
	}
	for i := range 6000 {
		all := lists[i%len(lists)]
		last := all[source.Intn(len(all))]
		l := make([]impl.Report, source.Intn(12))
		for k := range l {
			l[k] = all[source.Intn(len(all))]
		}
		want := typedByTheText(last, l)
		checkTyped(t, last, l, want)
		// What is typed of two parts is what is typed of both together.
		at := source.Intn(len(l) + 1)
		middle := append([]impl.Report{last}, l...)[at]
		if got := impl.TypedText(last, l[:at]) + impl.TypedText(middle, l[at:]); got != want {
			t.Fatalf("from %v, the parts of %v at %d type %q, want %q", last, l, at, got, want)
		}
	}
}

func TestTypedTextOfLongLists(t *testing.T) {
	checkTyped(t, impl.Report{}, slices.Repeat(reportsOf(t, ":a S:a,b :"), 20000), strings.Repeat("aB", 20000))
}

// checkTextReports checks what is typed for any text.
func checkTextReports(t *testing.T, s string) {
	t.Helper()
	keys, typed := keysByTheText(s)
	var want []impl.Report
	var macro []impl.Step
	for _, key := range keys {
		want = append(want, impl.Report{Mods: key.mods, Keys: []int{key.code}}, impl.Report{})
		macro = append(macro, impl.Step{Kind: impl.MacroTap, Code: key.code, Mods: key.mods})
	}
	reports, ok := impl.TextReports(s)
	if fits := typed && len(s) <= 60; ok != fits || fits && !sameReports(reports, want) || !fits && len(reports) != 0 {
		t.Fatalf("TextReports(%.80q) = %v, %v, want %v, %v", s, reports, ok, want, fits)
	}
	steps, fine := impl.TextMacro(s)
	if fits := typed && len(s) <= 8; fine != fits || fits && !slices.Equal(steps, macro) || !fits && len(steps) != 0 {
		t.Fatalf("TextMacro(%.80q) = %v, %v, want %v, %v", s, steps, fine, macro, fits)
	}
	if ok {
		checkTyped(t, impl.Report{}, reports, s)
	}
	if fine {
		checkTyped(t, impl.Report{}, impl.MacroReports(nil, steps), s)
		if !impl.IsMacro(steps) || !sameReports(impl.MacroReports(nil, steps), reports) {
			t.Fatalf("of %q, the macro is %v and the reports are %v", s, steps, reports)
		}
	}
}

func TestTextReports(t *testing.T) {
	for s, want := range map[string]string{
		"":       "",
		"a":      ":a :",
		"A":      "S:a :",
		"aB 1":   ":a : S:b : :space : :1 :",
		"aa":     ":a : :a :",
		"Aa":     "S:a : :a :",
		"-_=+":   ":minus : S:minus : :equal : S:equal :",
		"\t\n":   ":tab : :enter :",
		"90()":   ":9 : :0 : S:9 : S:0 :",
		"a, b":   "",
		"\x00":   "",
		"a\x00":  "",
		"\u00e9": "",
		"a\xff":  "",
		"A.":     "",
	} {
		got, ok := impl.TextReports(s)
		if fine := s == "" || want != ""; ok != fine || textOfReports(got) != want {
			t.Errorf("TextReports(%q) = %s, %v, want %s, %v", s, textOfReports(got), ok, want, fine)
		}
		checkTextReports(t, s)
	}
}

func TestTextMacro(t *testing.T) {
	for s, want := range map[string]string{
		"":          "",
		"a":         "t=a",
		"Hello":     "t=S-h t=e t=l t=l t=o",
		"A+1=\n":    "t=S-a t=S-equal t=1 t=equal t=enter",
		"abcdefgh":  "t=a t=b t=c t=d t=e t=f t=g t=h",
		"aaaaaaaa":  "t=a t=a t=a t=a t=a t=a t=a t=a",
		"abcdefghi": "",
		"abcdefg.":  "",
		".":         "",
		"\x00":      "",
		"\u20ac":    "",
		"a\xffb":    "",
	} {
		got, ok := impl.TextMacro(s)
		if fine := s == "" || want != ""; ok != fine || !slices.Equal(got, stepsOf(t, want)) {
			t.Errorf("TextMacro(%q) = %v, %v, want %s, %v", s, got, ok, want, fine)
		}
		if ok && impl.FormatMacro(got) != want {
			t.Errorf("FormatMacro of TextMacro(%q) = %q, want %q", s, impl.FormatMacro(got), want)
		}
		checkTextReports(t, s)
	}
}

func TestTextsOfAllPairs(t *testing.T) {
	for a := range 256 {
		for b := range 256 {
			checkTextReports(t, string([]byte{byte(a), byte(b)}))
		}
	}
}

// randomText returns a text that can be typed.
func randomText(source *rand.Rand, n int) string {
	b := make([]byte, n)
	for i := range b {
		b[i] = typable[source.Intn(len(typable))]
	}
	return string(b)
}

func TestTextsOfAllLengths(t *testing.T) {
	source := rand.New(rand.NewSource(122))
	for n := range 80 {
		for range 40 {
			s := randomText(source, n)
			checkTextReports(t, s)
			// A byte anywhere is changed.
			if n > 0 {
				at := source.Intn(n)
				checkTextReports(t, s[:at]+string([]byte{byte(source.Intn(256))})+s[at+1:])
			}
		}
		checkTextReports(t, strings.Repeat("a", n))
		checkTextReports(t, strings.Repeat("\n", n))
	}
	for _, s := range []string{
		strings.Repeat("a", 100000), strings.Repeat("\x00", 100000), strings.Repeat("\u00e9", 30), strings.Repeat("\u00e9", 4), strings.Repeat("\xff", 60),
		// bytes count, not runes
		strings.Repeat("a", 58) + "\u20ac", strings.Repeat("a", 59) + "\u00e9", "\uff21", "\u0430", "\u212a", "\u017f", "a\u0301", "\ufffd",
	} {
		checkTextReports(t, s)
	}
}

func TestTextsThatCannotBeTypedAnywhere(t *testing.T) {
	for char := range 256 {
		for _, n := range []int{1, 2, 7, 8, 9, 59, 60, 61} {
			for _, at := range []int{0, n / 2, n - 1} {
				b := []byte(strings.Repeat("k", n))
				b[at] = byte(char)
				checkTextReports(t, string(b))
			}
		}
	}
}

// A macro is played while keys are held: the held modifiers are added, and held keys are not typed again.
func TestPromise11OfMacrosWhileKeysAreHeld(t *testing.T) {
	for _, c := range []struct{ held, text, want string }{
		{"", "Hi 2", "Hi 2"},
		{"S-", "aB1-", "AB!_"},
		{"C-", "aB1-", ""},
		{"a", "abab", "bb"},
		{"S-a", "aAbB", "BB"},
		{"f1 esc", "a\nb", "a\nb"},
		{"once:S", "a1", "A!"},
		{"mo:1 caps tg:1", "a1", "a1"},
		{"space S-", "a b", "AB"},
	} {
		held := heldOf(t, c.held)
		steps, ok := impl.TextMacro(c.text)
		if !ok {
			t.Fatalf("TextMacro(%q) fails", c.text)
		}
		checkTyped(t, impl.ReportOf(held), impl.MacroReports(held, steps), c.want)
	}
	source := rand.New(rand.NewSource(123))
	for _, held := range randomHeld(3000) {
		s := randomText(source, source.Intn(9))
		steps, _ := impl.TextMacro(s)
		last, want := reportByTheText(held), ""
		keys, _ := keysByTheText(s)
		for _, key := range keys {
			if !slices.Contains(last.Keys, key.code) {
				want += charsByTheText[typing{key.code, key.mods | last.Mods}]
			}
		}
		checkTyped(t, last, impl.MacroReports(held, steps), want)
	}
}

// textMacros returns macros that type a text of up to 32 characters one after the other.
func textMacros(t *testing.T, s string) [][]impl.Step {
	t.Helper()
	macros := make([][]impl.Step, 4)
	for i := range macros {
		n := min(len(s), 8)
		steps, ok := impl.TextMacro(s[:n])
		if !ok {
			t.Fatalf("TextMacro(%q) fails", s[:n])
		}
		macros[i], s = steps, s[n:]
	}
	return macros
}

func reportsSent(l []impl.Sent) []impl.Report {
	var reports []impl.Report
	for _, s := range l {
		reports = append(reports, s.Report)
	}
	return reports
}

// A text is typed by the macros of a keyboard, whatever its timing is, and whenever its keys go down and up.
func TestPromise11OfMacrosWithEveryTiming(t *testing.T) {
	source := rand.New(rand.NewSource(124))
	m := mapOf(t, "macro:0 macro:1 macro:2 macro:3 S/x", "pass pass pass pass pass")
	for range 1500 {
		s := randomText(source, source.Intn(33))
		e, ok := impl.NewEngine(m, textMacros(t, s))
		if !ok {
			t.Fatalf("no engine for %q", s)
		}
		_, reports, ok := impl.TapKeys(e, []int{0, 1, 2, 3})
		if got := impl.TypedText(impl.Report{}, reports); !ok || got != s {
			t.Fatalf("the macros of %q type %q, %v", s, got, ok)
		}
		// Each key goes down behind the one before it, which may still be down.
		var l []impl.Event
		time := 0
		for key := range 4 {
			time += source.Intn(9)
			l = append(l, impl.Event{Time: time, Key: key, Down: true})
		}
		for _, key := range source.Perm(4) {
			time += source.Intn(9)
			l = append(l, impl.Event{Time: time, Key: key})
		}
		_, sent, ok := impl.PlayEvents(newDecider(t, e, randomTiming(source)), l, time)
		if got := impl.TypedText(impl.Report{}, reportsSent(sent)); !ok || got != s {
			t.Fatalf("with %v, the macros of %q type %q, %v", l, s, got, ok)
		}
	}
}

// Keys go down one after the other, and each stays as long as it likes before it comes again.
func TestPromise11OfKeysThatStay(t *testing.T) {
	names := "a b c d e f z 1 2 0 enter space minus equal tab S- f1"
	e := engineOf(t, names)
	shift, silent := 15, 16
	codes := mapOf(t, names).Layers[0]
	source := rand.New(rand.NewSource(125))
	for range 600 {
		var events []impl.Event
		down := map[int]bool{}
		want, time := "", 0
		for len(events) < 60 {
			time += source.Intn(7)
			key := source.Intn(len(codes))
			down[key] = !down[key]
			events = append(events, impl.Event{Time: time, Key: key, Down: down[key]})
			if !down[key] || key == shift || key == silent {
				continue
			}
			mods := 0
			if down[shift] {
				mods = impl.ModShift
			}
			want += charsByTheText[typing{codes[key].Code, mods}]
		}
		_, sent, ok := impl.PlayEvents(newDecider(t, e, randomTiming(source)), events, time)
		if got := impl.TypedText(impl.Report{}, reportsSent(sent)); !ok || got != want {
			t.Fatalf("%v types %q, %v, want %q", events, got, ok, want)
		}
	}
}

func TestHostResultsAreNewMemory(t *testing.T) {
	full := impl.Report{Mods: 2, Keys: roomy(allCodes(56), -7)}
	for _, r := range append(someReports()[:200], badReports()...) {
		last := impl.Report{Keys: roomy([]int{1, 5, 40}, -7)}
		r.Keys = roomy(r.Keys, -7)
		l := roomy([]impl.Report{{}, r, full, {}, r}, impl.Report{Mods: -7})
		before := wholeOf(reflect.ValueOf(l)) + wholeOf(reflect.ValueOf(last))
		impl.TypedText(last, l)
		checkApart(t, last, r, full, impl.NewKeys(last, r), impl.NewKeys(last, r), impl.NewKeys(r, full), impl.NewKeys(impl.Report{}, r), impl.NewKeys(impl.Report{Keys: r.Keys[:0]}, r))
		if after := wholeOf(reflect.ValueOf(l)) + wholeOf(reflect.ValueOf(last)); after != before {
			t.Fatalf("the reports have become %s, they were %s", after, before)
		}
	}
	for _, s := range []string{"", "a", "aa", "AbC 12\n", "Hello, ", strings.Repeat("xY", 30)} {
		first, ok := impl.TextReports(s)
		second, _ := impl.TextReports(s)
		steps, _ := impl.TextMacro(s)
		more, _ := impl.TextMacro(s)
		checkApart(t, first, second, steps, more)
		for _, r := range first {
			overwrite(r.Keys)
		}
		clear(first)
		overwriteSteps(steps)
		if ok && impl.TypedText(impl.Report{}, second) != s {
			t.Errorf("with another result changed, TextReports(%q) gave %v", s, second)
		}
		checkTextReports(t, s)
	}
}
