package tests

import (
	"math"
	"slices"
	"strings"
	"testing"

	"loop.example/g03414/impl"
)

// namesInOrder are the names of the codes from 1 on, as the document counts them.
var namesInOrder = strings.Fields("a b c d e f g h i j k l m n o p q r s t u v w x y z " +
	"1 2 3 4 5 6 7 8 9 0 enter esc back tab space minus equal left right up down f1 f2 f3 f4 f5 f6 f7 f8 f9")

// modsInOrder are the formats of the modifiers from 1 on.
var modsInOrder = strings.Fields("C S CS A CA SA CSA G CG SG CSG AG CAG SAG CSAG")

var noNumbers = []int{math.MinInt, -1 << 32, -1000, -64, -63, -2, -1, 1 << 32, 1<<32 + 1, 1 << 62, math.MaxInt}

// textsOfActions has every valid action with its format, written down from the text of the document.
func textsOfActions() map[impl.Action]string {
	texts := map[impl.Action]string{
		{Kind: impl.ActNone}: "none",
		{Kind: impl.ActPass}: "pass",
		{Kind: impl.ActCaps}: "caps",
	}
	digits := []string{"0", "1", "2", "3"}
	for n, digit := range digits {
		texts[impl.Action{Kind: impl.ActTo, N: n}] = "to:" + digit
		texts[impl.Action{Kind: impl.ActMacro, N: n}] = "macro:" + digit
		if n > 0 {
			texts[impl.Action{Kind: impl.ActMomentary, N: n}] = "mo:" + digit
			texts[impl.Action{Kind: impl.ActToggle, N: n}] = "tg:" + digit
		}
	}
	for i, letters := range modsInOrder {
		texts[impl.Action{Kind: impl.ActOnce, Mods: i + 1}] = "once:" + letters
		texts[impl.Action{Kind: impl.ActKey, Mods: i + 1}] = letters + "-"
	}
	for i, name := range namesInOrder {
		texts[impl.Action{Kind: impl.ActKey, Code: i + 1}] = name
		for j, letters := range modsInOrder {
			texts[impl.Action{Kind: impl.ActKey, Code: i + 1, Mods: j + 1}] = letters + "-" + name
			texts[impl.Action{Kind: impl.ActModTap, Code: i + 1, Mods: j + 1}] = letters + "/" + name
		}
		for n := 1; n <= 3; n++ {
			texts[impl.Action{Kind: impl.ActLayerTap, Code: i + 1, N: n}] = digits[n] + "/" + name
		}
	}
	return texts
}

// actionsOfTexts has every format with its action.
func actionsOfTexts() map[string]impl.Action {
	actions := map[string]impl.Action{}
	for a, s := range textsOfActions() {
		actions[s] = a
	}
	return actions
}

// badActions are invalid: each has a kind that is none, a field that its kind does not use, or a field out of its limits.
func badActions() []impl.Action {
	var l []impl.Action
	for _, n := range append([]int{11, 12, 63, 64, 255, 256}, noNumbers...) {
		l = append(l, impl.Action{Kind: n}, impl.Action{Kind: n, Code: 1}, impl.Action{Kind: n, Mods: 1}, impl.Action{Kind: n, N: 1})
	}
	for a := range textsOfActions() {
		for _, n := range noNumbers {
			l = append(l,
				impl.Action{Kind: a.Kind, Code: n, Mods: a.Mods, N: a.N},
				impl.Action{Kind: a.Kind, Code: a.Code, Mods: n, N: a.N},
				impl.Action{Kind: a.Kind, Code: a.Code, Mods: a.Mods, N: n},
			)
		}
	}
	return append(l,
		impl.Action{Kind: impl.ActKey},
		// numbers whose sum is 0 or within the limits
		impl.Action{Kind: impl.ActKey, Code: 5, Mods: -5},
		impl.Action{Kind: impl.ActKey, Code: -5, Mods: 5},
		impl.Action{Kind: impl.ActKey, Code: 57, Mods: -1},
		impl.Action{Kind: impl.ActModTap, Code: math.MinInt, Mods: math.MinInt},
	)
}

func TestCodeName(t *testing.T) {
	if len(namesInOrder) != impl.MaxCode {
		t.Fatalf("the document has %d names", len(namesInOrder))
	}
	for i, name := range namesInOrder {
		if got := impl.CodeName(i + 1); got != name {
			t.Errorf("CodeName(%d) = %q, want %q", i+1, got, name)
		}
		if got := impl.CodeOf(name); got != i+1 {
			t.Errorf("CodeOf(%q) = %d, want %d", name, got, i+1)
		}
	}
	for _, code := range append([]int{0, 57, 58, 112, 256, 257}, noNumbers...) {
		if got := impl.CodeName(code); got != "" {
			t.Errorf("CodeName(%d) = %q, want none", code, got)
		}
	}
	// the ends of the groups, as the document numbers them
	for name, code := range map[string]int{"a": 1, "z": 26, "1": 27, "9": 35, "0": 36, "enter": 37, "space": 41, "down": 47, "f1": 48, "f9": 56} {
		if got := impl.CodeOf(name); got != code {
			t.Errorf("CodeOf(%q) = %d, want %d", name, got, code)
		}
	}
}

func TestCodeOfRejects(t *testing.T) {
	names := []string{
		"", " ", "\x00", "A", "Z", "S", "aa", "ab", "a ", " a", "a\x00", "10", "00", "01", "-1", "f0", "f10", "ff", "F1", "f01",
		"ente", "enter ", "Enter", "ENTER", "escape", "backspace", "spac", "spaces", "-", "=", "/", ":", "none", "pass", "caps", "mo:1",
		"S-a", "a-", "-a", "\xff", "\u00e4", "\u0430", "\u0661", strings.Repeat("a", 5000),
	}
	for _, name := range names {
		if got := impl.CodeOf(name); got != 0 {
			t.Errorf("CodeOf(%.60q) = %d, want 0", name, got)
		}
	}
}

func TestMods(t *testing.T) {
	for i, letters := range modsInOrder {
		if got := impl.FormatMods(i + 1); got != letters {
			t.Errorf("FormatMods(%d) = %q, want %q", i+1, got, letters)
		}
	}
	for letters, mods := range map[string]int{"C": impl.ModCtrl, "S": impl.ModShift, "A": impl.ModAlt, "G": impl.ModGui, "CSAG": impl.MaxMods} {
		if got := impl.FormatMods(mods); got != letters {
			t.Errorf("FormatMods(%d) = %q, want %q", mods, got, letters)
		}
		if got := impl.ParseMods(letters); got != mods {
			t.Errorf("ParseMods(%q) = %d, want %d", letters, got, mods)
		}
	}
	for _, mods := range append([]int{0, 16, 17, 31, 32, 255, 256}, noNumbers...) {
		if got := impl.FormatMods(mods); got != "" {
			t.Errorf("FormatMods(%d) = %q, want none", mods, got)
		}
	}
}

func TestParseModsReadsNothingElse(t *testing.T) {
	// Every text of up to five of these characters is read as its modifiers or not at all.
	const characters = "CSAGcs- "
	read := 0
	var check func(s string)
	check = func(s string) {
		got := impl.ParseMods(s)
		// The index of a text that is no format is -1.
		if want := slices.Index(modsInOrder, s) + 1; got != want {
			t.Fatalf("ParseMods(%q) = %d, want %d", s, got, want)
		}
		if got != 0 {
			read++
		}
		for i := 0; i < len(characters) && len(s) < 5; i++ {
			check(s + characters[i:i+1])
		}
	}
	check("")
	if read != impl.MaxMods {
		t.Errorf("%d texts are read, want %d", read, impl.MaxMods)
	}
	for _, s := range []string{"0", "1", "15", "Ctrl", "C\x00", "C\xff", "\xff", "\u0421", strings.Repeat("C", 5000), strings.Repeat("CSAG", 1000)} {
		if got := impl.ParseMods(s); got != 0 {
			t.Errorf("ParseMods(%.60q) = %d, want 0", s, got)
		}
	}
}

func TestPromise5OfAllActions(t *testing.T) {
	texts := textsOfActions()
	if actions := actionsOfTexts(); len(actions) != len(texts) {
		t.Fatalf("%d actions have %d formats", len(texts), len(actions))
	}
	for a, s := range texts {
		if !impl.IsAction(a) {
			t.Errorf("IsAction(%v) = false, want %q", a, s)
		}
		if got := impl.FormatAction(a); got != s {
			t.Errorf("FormatAction(%v) = %q, want %q", a, got, s)
		}
		if got, ok := impl.ParseAction(s); !ok || got != a {
			t.Errorf("ParseAction(%q) = %v, %v, want %v, true", s, got, ok, a)
		}
	}
}

func TestIsActionAroundTheLimits(t *testing.T) {
	// No action in this box is valid but those that the document lists.
	texts := textsOfActions()
	valid := 0
	for kind := -1; kind <= 12; kind++ {
		for code := -1; code <= impl.MaxCode+2; code++ {
			for mods := -1; mods <= impl.MaxMods+2; mods++ {
				for n := -1; n <= 5; n++ {
					a := impl.Action{Kind: kind, Code: code, Mods: mods, N: n}
					s, want := texts[a]
					if got := impl.IsAction(a); got != want {
						t.Fatalf("IsAction(%v) = %v", a, got)
					}
					if got := impl.FormatAction(a); got != s {
						t.Fatalf("FormatAction(%v) = %q, want %q", a, got, s)
					}
					if want {
						valid++
					}
				}
			}
		}
	}
	if valid != len(texts) {
		t.Errorf("%d actions were met, want %d", valid, len(texts))
	}
}

func TestActionsThatAreNotValid(t *testing.T) {
	for _, a := range badActions() {
		if impl.IsAction(a) {
			t.Errorf("IsAction(%v) = true", a)
		}
		if got := impl.FormatAction(a); got != "" {
			t.Errorf("FormatAction(%v) = %q, want none", a, got)
		}
		if impl.IsTapHold(a) {
			t.Errorf("IsTapHold(%v) = true", a)
		}
		if got := impl.TapOf(a); got != a {
			t.Errorf("TapOf(%v) = %v, want it unchanged", a, got)
		}
		if got := impl.HoldOf(a); got != a {
			t.Errorf("HoldOf(%v) = %v, want it unchanged", a, got)
		}
	}
}

func TestParseAction(t *testing.T) {
	cases := []struct {
		s    string
		want impl.Action
	}{
		{"none", impl.Action{}},
		{"pass", impl.Action{Kind: impl.ActPass}},
		{"caps", impl.Action{Kind: impl.ActCaps}},
		{"a", impl.Action{Kind: impl.ActKey, Code: 1}},
		{"0", impl.Action{Kind: impl.ActKey, Code: 36}},
		{"minus", impl.Action{Kind: impl.ActKey, Code: 42}},
		{"f9", impl.Action{Kind: impl.ActKey, Code: 56}},
		{"S-", impl.Action{Kind: impl.ActKey, Mods: 2}},
		{"CSAG-", impl.Action{Kind: impl.ActKey, Mods: 15}},
		{"CG-minus", impl.Action{Kind: impl.ActKey, Code: 42, Mods: 9}},
		{"mo:1", impl.Action{Kind: impl.ActMomentary, N: 1}},
		{"tg:3", impl.Action{Kind: impl.ActToggle, N: 3}},
		{"to:0", impl.Action{Kind: impl.ActTo}},
		{"macro:0", impl.Action{Kind: impl.ActMacro}},
		{"macro:3", impl.Action{Kind: impl.ActMacro, N: 3}},
		{"A/enter", impl.Action{Kind: impl.ActModTap, Code: 37, Mods: 4}},
		{"S/0", impl.Action{Kind: impl.ActModTap, Code: 36, Mods: 2}},
		{"2/space", impl.Action{Kind: impl.ActLayerTap, Code: 41, N: 2}},
		{"1/1", impl.Action{Kind: impl.ActLayerTap, Code: 27, N: 1}},
		{"once:SA", impl.Action{Kind: impl.ActOnce, Mods: 6}},
	}
	for _, c := range cases {
		if got, ok := impl.ParseAction(c.s); !ok || got != c.want {
			t.Errorf("ParseAction(%q) = %v, %v, want %v, true", c.s, got, ok, c.want)
		}
		if got := impl.FormatAction(c.want); got != c.s {
			t.Errorf("FormatAction(%v) = %q, want %q", c.want, got, c.s)
		}
	}
}

// checkNoAction checks that a text is not read.
func checkNoAction(t *testing.T, s string) {
	t.Helper()
	if got, ok := impl.ParseAction(s); ok || got != (impl.Action{}) {
		t.Errorf("ParseAction(%.60q) = %v, %v, want the zero value and false", s, got, ok)
	}
}

func TestParseActionRejects(t *testing.T) {
	cases := []string{
		"", " ", "\x00", "\xff", "key", "None", "NONE", "nones", "non", "no", "once", "mo", "tg", "to", "macro", "cap",
		// separators alone, or with one side
		"-", "/", ":", "--", "//", "-a", "/a", ":a", ":1", "a-", "a/", "a:", "S/", "1/", "mo:", "to:", "macro:", "once:", "none:", "pass:", "caps:",
		// layers, macros and modifiers out of their limits
		"mo:0", "mo:4", "tg:0", "tg:4", "to:4", "to:-1", "to:-0", "macro:4", "macro:-1", "0/a", "4/a", "-1/a", "10/a",
		"mo:18446744073709551617", "to:18446744073709551616", "to:9223372036854775808", "to:1000000000",
		// numbers and modifiers that are not written so
		"mo:01", "mo:+1", "mo:1.0", "to:00", "to:", "mo: 1", "mo:1 ", " mo:1", "mo :1", "01/a", "+1/a", "1 /a", "1/ a", "SC-a", "SS-a", "s-a", "S -a", "S- a", "CSAGC-a", "GC/a", "once:GC", "once:SS", "once:s",
		// fields of another kind
		"mo:S", "to:a", "macro:C", "once:1", "once:a", "once:S-", "none:0", "none:1", "pass:S", "caps:0", "none/a", "caps-a", "1-a", "0-a", "mo-1", "mo/1", "S:a", "1:a", "S/S-a", "1/S", "1/mo:1", "S/2/a", "a/b", "a-b", "S/S", "S-S",
		// no such names
		"aa", "A", "S-A", "S/A", "1/f10", "f0", "S-f10", "S-none", "S/none", "1/pass", "S-caps", "S-Enter", "S--", "S-=", "1/-",
		"\u00e4", "S-\u00e4", "mo:\u0661", "\u0421-a", "S-a\xff", "S-a\x00", "mo:1\n", "a\n",
		// more than one action
		"a b", "a,b", "S-a-b", "S-C-a", "S-/a", "S/-a", "1/a/b", "1//a", "S//a", "S--a",
		strings.Repeat("a", 5000), strings.Repeat("mo:", 2000), strings.Repeat("S-", 2000), strings.Repeat("1/", 2000), "to:" + strings.Repeat("0", 5000),
	}
	for _, s := range cases {
		checkNoAction(t, s)
	}
}

func TestNamesWithTwoColons(t *testing.T) {
	for s := range actionsOfTexts() {
		// A second colon behind the action, in front of it, or for the part that is behind it.
		for _, text := range []string{s + ":", ":" + s, s + "::", "::" + s, s + ":" + s, s + ":0", s + ":1", s + ":S"} {
			checkNoAction(t, text)
		}
		if head, rest, ok := strings.Cut(s, ":"); ok {
			for _, text := range []string{head + "::" + rest, head + "::", head + ":" + head + ":" + rest, head + ":" + rest + ":" + rest, head + ":0:" + rest, head + ":" + rest + ":0"} {
				checkNoAction(t, text)
			}
		}
	}
	for _, s := range []string{"::", ":::", ":mo:1", "mo:1:", "mo::1", "mo:1:1", "mo:1:2", "mo:mo:1", "to::", "to::0", "to:0:", "to:0:0", "once:S:", "once::S", "once:S:S", "macro:0:", "none::", "a::", "S-a:b:", "S:/:a"} {
		checkNoAction(t, s)
	}
}

func TestParseActionReadsNothingElse(t *testing.T) {
	// Every text of up to five of these characters is read as its action or not at all.
	const characters = "amotbgS12:/-"
	actions := actionsOfTexts()
	want, read := 0, 0
	for s := range actions {
		if len(s) <= 5 && strings.Trim(s, characters) == "" {
			want++
		}
	}
	var check func(s string)
	check = func(s string) {
		checkText(t, actions, s)
		if _, ok := actions[s]; ok {
			read++
		}
		for i := 0; i < len(characters) && len(s) < 5; i++ {
			check(s + characters[i:i+1])
		}
	}
	check("")
	if read != want {
		t.Errorf("%d formats were met, want %d", read, want)
	}
}

// checkText checks that a text is read if and only if it is the format of an action.
func checkText(t *testing.T, actions map[string]impl.Action, s string) {
	t.Helper()
	want, wantOK := actions[s]
	if got, ok := impl.ParseAction(s); ok != wantOK || got != want {
		t.Fatalf("ParseAction(%q) = %v, %v, want %v, %v", s, got, ok, want, wantOK)
	}
}

func TestParseActionOfChangedFormats(t *testing.T) {
	actions := actionsOfTexts()
	for s := range actions {
		for i := range len(s) + 1 {
			for _, c := range []string{"", " ", ":", "/", "-", "0", "1", "4", "C", "S", "a", "\x00", "\xff"} {
				checkText(t, actions, s[:i]+c+s[i:])
				if i < len(s) {
					checkText(t, actions, s[:i]+c+s[i+1:])
				}
			}
		}
	}
}

func TestTapOfAndHoldOf(t *testing.T) {
	for a := range textsOfActions() {
		isTapHold, tap, hold := false, a, a
		switch a.Kind {
		case impl.ActModTap:
			isTapHold, tap, hold = true, impl.Action{Kind: impl.ActKey, Code: a.Code}, impl.Action{Kind: impl.ActKey, Mods: a.Mods}
		case impl.ActLayerTap:
			isTapHold, tap, hold = true, impl.Action{Kind: impl.ActKey, Code: a.Code}, impl.Action{Kind: impl.ActMomentary, N: a.N}
		}
		if got := impl.IsTapHold(a); got != isTapHold {
			t.Errorf("IsTapHold(%v) = %v", a, got)
		}
		if got := impl.TapOf(a); got != tap {
			t.Errorf("TapOf(%v) = %v, want %v", a, got, tap)
		}
		if got := impl.HoldOf(a); got != hold {
			t.Errorf("HoldOf(%v) = %v, want %v", a, got, hold)
		}
	}
	cases := []struct{ s, tap, hold string }{
		{"S/c", "c", "S-"},
		{"CSAG/f9", "f9", "CSAG-"},
		{"2/d", "d", "mo:2"},
		{"3/0", "0", "mo:3"},
		{"S-c", "S-c", "S-c"},
		{"mo:2", "mo:2", "mo:2"},
		{"once:S", "once:S", "once:S"},
		{"none", "none", "none"},
	}
	for _, c := range cases {
		a, ok := impl.ParseAction(c.s)
		if tap, hold := impl.FormatAction(impl.TapOf(a)), impl.FormatAction(impl.HoldOf(a)); !ok || tap != c.tap || hold != c.hold {
			t.Errorf("%q is %q when it is tapped and %q when it is held, want %q and %q", c.s, tap, hold, c.tap, c.hold)
		}
	}
	// Actions that would be tapped or held, but are not valid, stay as they are.
	for _, a := range []impl.Action{
		{Kind: impl.ActModTap}, {Kind: impl.ActModTap, Code: 1}, {Kind: impl.ActModTap, Mods: 1}, {Kind: impl.ActModTap, Code: 1, Mods: 1, N: 1},
		{Kind: impl.ActModTap, Code: 57, Mods: 1}, {Kind: impl.ActModTap, Code: 1, Mods: 16},
		{Kind: impl.ActLayerTap}, {Kind: impl.ActLayerTap, Code: 1}, {Kind: impl.ActLayerTap, N: 1}, {Kind: impl.ActLayerTap, Code: 1, Mods: 1, N: 1},
		{Kind: impl.ActLayerTap, Code: 57, N: 1}, {Kind: impl.ActLayerTap, Code: 1, N: 4},
	} {
		if impl.IsTapHold(a) || impl.TapOf(a) != a || impl.HoldOf(a) != a {
			t.Errorf("%v is not valid, but IsTapHold is %v, TapOf %v and HoldOf %v", a, impl.IsTapHold(a), impl.TapOf(a), impl.HoldOf(a))
		}
	}
}
