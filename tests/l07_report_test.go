package tests

import (
	"bytes"
	"math"
	"math/rand"
	"slices"
	"strings"
	"testing"

	"loop.example/g03414/impl"
)

// heldOf returns a list in which the keys from 0 on are held with the actions of these formats.
func heldOf(t *testing.T, texts string) []impl.Held {
	t.Helper()
	m := mapOf(t, texts)
	l := []impl.Held{}
	for _, layer := range m.Layers {
		for key, a := range layer {
			l = append(l, impl.Held{Key: key, Action: a})
		}
	}
	return l
}

// heldActions has every action that a held key may have, in an order that does not change.
func heldActions() []impl.Action {
	return slices.DeleteFunc(sortedActions(), func(a impl.Action) bool {
		return a.Kind == impl.ActPass || a.Kind == impl.ActModTap || a.Kind == impl.ActLayerTap
	})
}

// randomHeld returns lists of all lengths up to 32, with keys in any order.
func randomHeld(n int) [][]impl.Held {
	source := rand.New(rand.NewSource(7))
	all := heldActions()
	few := []impl.Action{letterA, {Kind: impl.ActKey, Code: 2, Mods: 1}, {Kind: impl.ActKey, Mods: 2}, {Kind: impl.ActOnce, Mods: 8}, {Kind: impl.ActMomentary, N: 2}, {}}
	var lists [][]impl.Held
	for i := range n {
		actions := all
		if i%2 == 1 {
			actions = few
		}
		l := []impl.Held{}
		for _, key := range source.Perm(32)[:i/2%33] {
			l = append(l, impl.Held{Key: key, Action: actions[source.Intn(len(actions))]})
		}
		lists = append(lists, l)
	}
	return lists
}

// badHeld has lists that are each invalid for one reason.
func badHeld(t *testing.T) [][]impl.Held {
	var lists [][]impl.Held
	good := heldOf(t, "a S-b mo:1 once:C")
	change := func(at int, h impl.Held) {
		l := slices.Clone(good)
		l[at] = h
		lists = append(lists, l)
	}
	for at := range good {
		for _, key := range append([]int{32, 33, 63, 64, 255, 256}, noNumbers...) {
			change(at, impl.Held{Key: key, Action: good[at].Action})
		}
		for other := range good {
			if other != at {
				change(at, impl.Held{Key: other, Action: good[at].Action})
				change(at, good[other])
			}
		}
		for _, a := range []impl.Action{passes, {Kind: impl.ActModTap, Code: 3, Mods: 2}, {Kind: impl.ActLayerTap, Code: 4, N: 2}} {
			change(at, impl.Held{Key: at, Action: a})
		}
		for _, a := range []impl.Action{{Kind: -1}, {Kind: 11}, {Kind: impl.ActKey}, {Kind: impl.ActKey, Code: 57}, {Kind: impl.ActKey, Code: -1, Mods: 1}, {Kind: impl.ActKey, Code: 1, Mods: 16}, {Code: 1}, {Kind: impl.ActMomentary}, {Kind: impl.ActMomentary, N: 4}, {Kind: impl.ActMomentary, N: 70}, {Kind: impl.ActMomentary, N: -1}, {Kind: impl.ActOnce}, {Kind: impl.ActOnce, Code: 1, Mods: 1}} {
			change(at, impl.Held{Key: at, Action: a})
		}
	}
	// Every key is held, and one twice.
	all := []impl.Held{}
	for key := range 32 {
		all = append(all, impl.Held{Key: key, Action: letterA})
	}
	for _, key := range []int{0, 17, 31} {
		lists = append(lists, append(slices.Clone(all), all[key]))
	}
	return append(lists, append(slices.Clone(all), impl.Held{Key: 32, Action: letterA}), append(slices.Clone(all), all...), slices.Repeat(all[:1], 1000))
}

// reportOf returns the report with modifiers and keys of these formats.
func reportOf(t *testing.T, letters string, names string) impl.Report {
	t.Helper()
	r := impl.Report{Mods: slices.Index(modsInOrder, letters) + 1}
	for _, name := range strings.Fields(names) {
		code := slices.Index(namesInOrder, name) + 1
		if code == 0 {
			t.Fatalf("%q is no name", name)
		}
		r.Keys = append(r.Keys, code)
	}
	return r
}

// sameAs compares without the functions that are tested.
func sameAs(a impl.Report, b impl.Report) bool {
	return a.Mods == b.Mods && slices.Equal(a.Keys, b.Keys)
}

func isZeroReport(r impl.Report) bool { return r.Mods == 0 && len(r.Keys) == 0 }

// allCodes has the codes from 1 to n.
func allCodes(n int) []int {
	l := make([]int, n)
	for i := range l {
		l[i] = i + 1
	}
	return l
}

// someReports has valid reports with every number of keys, and with every modifier.
func someReports() []impl.Report {
	source := rand.New(rand.NewSource(77))
	l := []impl.Report{{}, {Keys: []int{}}}
	for mods := range 16 {
		l = append(l, impl.Report{Mods: mods}, impl.Report{Mods: mods, Keys: allCodes(56)})
		for n := range 57 {
			keys := source.Perm(56)[:n]
			for i := range keys {
				keys[i]++
			}
			slices.Sort(keys)
			l = append(l, impl.Report{Mods: mods, Keys: keys})
		}
		for code := 1; code <= 56; code++ {
			l = append(l, impl.Report{Mods: mods, Keys: []int{code}})
		}
	}
	return l
}

// badReports has reports that are each invalid for one reason.
func badReports() []impl.Report {
	l := []impl.Report{
		{Keys: []int{0}}, {Keys: []int{57}}, {Keys: []int{-1}}, {Keys: []int{1, 1}}, {Keys: []int{2, 1}}, {Keys: []int{56, 56}}, {Keys: []int{0, 1}}, {Keys: []int{56, 57}},
		{Keys: []int{1, 2, 2}}, {Keys: []int{1, 1, 2}}, {Keys: []int{1, 3, 2}}, {Keys: []int{2, 1, 3}}, {Keys: []int{3, 2, 1}}, {Keys: []int{1, 2, 3, 4, 5, 6, 6}}, {Keys: []int{1, 2, 3, 4, 5, 6, 7, 1}},
		{Keys: []int{1, 0}}, {Keys: []int{1, 2, 0, 0, 0, 0}}, {Keys: allCodes(57)}, {Keys: append(allCodes(56), 56)}, {Keys: slices.Repeat([]int{1}, 100)}, {Mods: 2, Keys: []int{0, 1, 2}},
		{Keys: []int{math.MinInt, 1}}, {Keys: []int{1, math.MinInt}}, {Keys: []int{1, math.MaxInt}}, {Keys: []int{math.MaxInt, 1}}, {Keys: []int{257}}, {Keys: []int{1, 1<<32 + 2}},
	}
	for _, n := range append([]int{16, 17, 31, 32, 255, 256, 258}, noNumbers...) {
		l = append(l, impl.Report{Mods: n}, impl.Report{Mods: n, Keys: []int{1, 2}})
		l = append(l, impl.Report{Keys: []int{n}}, impl.Report{Keys: []int{3, n}}, impl.Report{Mods: 5, Keys: []int{n, 3}})
	}
	// 16 and 31 and so on are good codes, but not good modifiers.
	return slices.DeleteFunc(l, func(r impl.Report) bool { return isReportByTheText(r) })
}

func isReportByTheText(r impl.Report) bool {
	for i, code := range r.Keys {
		if code < 1 || code > 56 || slices.ContainsFunc(r.Keys[:i], func(before int) bool { return before >= code }) {
			return false
		}
	}
	return r.Mods >= 0 && r.Mods <= 15
}

func TestIsHeld(t *testing.T) {
	for _, texts := range []string{"", "a", "S- b a C-a", "none none none", "caps macro:3 to:0 tg:1 mo:3 once:CSAG CSAG-f9 A-", strings.Repeat("a ", 32)} {
		if l := heldOf(t, texts); !impl.IsHeld(l) {
			t.Errorf("IsHeld of %q = false", texts)
		}
	}
	if !impl.IsHeld(nil) {
		t.Error("IsHeld(nil) = false")
	}
	for _, l := range randomHeld(300) {
		if !impl.IsHeld(l) {
			t.Errorf("IsHeld(%v) = false", l)
		}
	}
	for _, l := range badHeld(t) {
		if impl.IsHeld(l) {
			t.Errorf("IsHeld(%v) = true", l)
		}
	}
	// The numbers of two keys matter, not where they are in the list.
	for a := -2; a <= 34; a++ {
		for b := -2; b <= 34; b++ {
			want := a >= 0 && a <= 31 && b >= 0 && b <= 31 && a != b
			if got := impl.IsHeld([]impl.Held{{Key: a, Action: letterA}, {Key: b}}); got != want {
				t.Errorf("IsHeld of the keys %d and %d = %v", a, b, got)
			}
		}
	}
}

func TestIsHeldOfEachAction(t *testing.T) {
	before, behind := impl.Held{Key: 3, Action: letterA}, impl.Held{Key: 5, Action: impl.Action{Kind: impl.ActMomentary, N: 1}}
	check := func(a impl.Action, want bool) {
		h := impl.Held{Key: 4, Action: a}
		for _, l := range [][]impl.Held{{h}, {before, h}, {h, behind}, {before, h, behind}} {
			if got := impl.IsHeld(l); got != want {
				t.Fatalf("IsHeld(%v) = %v", l, got)
			}
		}
	}
	for a := range textsOfActions() {
		check(a, a.Kind != impl.ActPass && a.Kind != impl.ActModTap && a.Kind != impl.ActLayerTap)
	}
	for _, a := range badActions() {
		check(a, false)
	}
}

func TestLayersOn(t *testing.T) {
	cases := []struct {
		fixed int
		texts string
		want  int
	}{
		{0, "", 1},
		{1, "", 1},
		{14, "", 15},
		{15, "", 15},
		{8, "a b", 9},
		{4, "a mo:1", 7},
		{0, "mo:1", 3},
		{0, "mo:3", 9},
		{0, "mo:3 a mo:2", 13},
		{0, "mo:2 mo:2", 5},
		{4, "mo:2 mo:2 mo:2", 5},
		{2, "mo:1 mo:2 mo:3", 15},
		// other actions with a number have no layer on
		{0, "tg:1 to:2 macro:3 to:3 tg:2", 1},
		{2, "to:0", 3},
		{0, "macro:1 mo:2 macro:3", 5},
		// a mask that is not from 0 to 15 has no layers
		{16, "", 1},
		{16, "mo:2", 5},
		{17, "mo:1", 3},
		{31, "", 1},
		{-1, "", 1},
		{-2, "mo:3", 9},
		{-16, "", 1},
	}
	for _, c := range cases {
		if got := impl.LayersOn(c.fixed, heldOf(t, c.texts)); got != c.want {
			t.Errorf("LayersOn(%d, %s) = %d, want %d", c.fixed, c.texts, got, c.want)
		}
	}
	if got := impl.LayersOn(6, nil); got != 7 {
		t.Errorf("LayersOn(6, nil) = %d, want 7", got)
	}
}

// layersByTheText goes through the layers, not through the list.
func layersByTheText(fixed int, l []impl.Held, valid bool) int {
	on := 1
	for layer := 1; layer < 4; layer++ {
		momentary := func(h impl.Held) bool { return h.Action == impl.Action{Kind: impl.ActMomentary, N: layer} }
		if fixed >= 0 && fixed <= 15 && isOn(fixed, layer) || valid && slices.ContainsFunc(l, momentary) {
			on += 1 << layer
		}
	}
	return on
}

func TestLayersOnOfAllMasks(t *testing.T) {
	masks := append([]int{31, 32, 47, 63, 64, 255, 256, 1 << 40}, noNumbers...)
	for mask := -40; mask <= 40; mask++ {
		masks = append(masks, mask)
	}
	good, bad := randomHeld(300), badHeld(t)
	for _, fixed := range masks {
		for _, l := range good {
			if got, want := impl.LayersOn(fixed, l), layersByTheText(fixed, l, true); got != want {
				t.Fatalf("LayersOn(%d, %v) = %d, want %d", fixed, l, got, want)
			}
		}
		// What is not valid has no layers on, and the mask has its layers on all the same.
		for _, l := range bad {
			if got, want := impl.LayersOn(fixed, l), layersByTheText(fixed, l, false); got != want {
				t.Fatalf("LayersOn(%d, %v) = %d, want %d", fixed, l, got, want)
			}
		}
	}
}

func TestReportOf(t *testing.T) {
	cases := []struct{ held, letters, names string }{
		{"", "", ""},
		{"a", "", "a"},
		{"S-", "S", ""},
		{"S- b a C-a", "CS", "a b"},
		{"b a", "", "a b"},
		{"a a a", "", "a"},
		{"C-a a A-a", "CA", "a"},
		{"f9 a down 1", "", "a 1 down f9"},
		{"once:S", "S", ""},
		{"once:S once:C a", "CS", "a"},
		{"once:SA A-f1 G- S-", "SAG", "f1"},
		{"C- S- A- G-", "CSAG", ""},
		{"C-a C-b", "C", "a b"},
		// what other actions have is no part of the report
		{"none", "", ""},
		{"none mo:1 tg:2 to:3 macro:1 caps", "", ""},
		{"mo:1 a macro:2", "", "a"},
		{"g f e d c b a", "", "a b c d e f g"},
	}
	for _, c := range cases {
		want := reportOf(t, c.letters, c.names)
		if got := impl.ReportOf(heldOf(t, c.held)); !sameAs(got, want) {
			t.Errorf("ReportOf %s = %v, want %v", c.held, got, want)
		}
	}
	if got := impl.ReportOf(nil); !isZeroReport(got) {
		t.Errorf("ReportOf(nil) = %v", got)
	}
	for _, l := range badHeld(t) {
		if got := impl.ReportOf(l); !isZeroReport(got) {
			t.Errorf("ReportOf(%v) = %v, want the zero value", l, got)
		}
	}
}

// reportByTheText goes through the modifiers and codes, not through the list.
func reportByTheText(l []impl.Held) impl.Report {
	var r impl.Report
	for _, mod := range []int{impl.ModCtrl, impl.ModShift, impl.ModAlt, impl.ModGui} {
		if slices.ContainsFunc(l, func(h impl.Held) bool {
			return (h.Action.Kind == impl.ActKey || h.Action.Kind == impl.ActOnce) && h.Action.Mods/mod%2 == 1
		}) {
			r.Mods += mod
		}
	}
	for code := 1; code <= 56; code++ {
		if slices.ContainsFunc(l, func(h impl.Held) bool { return h.Action.Code == code }) {
			r.Keys = append(r.Keys, code)
		}
	}
	return r
}

// checkReportOf checks that the report has just what is held, and that the bytes and texts tell it.
func checkReportOf(t *testing.T, l []impl.Held) {
	t.Helper()
	got, want := impl.ReportOf(l), reportByTheText(l)
	if !sameAs(got, want) {
		t.Fatalf("ReportOf(%v) = %v, want %v", l, got, want)
	}
	checkReport(t, got)
}

func TestPromise6OfHeldKeys(t *testing.T) {
	source := rand.New(rand.NewSource(66))
	for _, l := range randomHeld(2000) {
		checkReportOf(t, l)
		want := impl.ReportOf(l)
		// Neither the order nor which keys they are matters.
		other := slices.Clone(l)
		source.Shuffle(len(other), func(i int, k int) { other[i], other[k] = other[k], other[i] })
		if got := impl.ReportOf(other); !sameAs(got, want) {
			t.Fatalf("ReportOf(%v) = %v, want %v", other, got, want)
		}
		for i := range other {
			other[i].Key = i
		}
		if got := impl.ReportOf(other); !sameAs(got, want) {
			t.Fatalf("ReportOf(%v) = %v, want %v", other, got, want)
		}
	}
	all := heldActions()
	for i, a := range all {
		for k := i % 7; k < len(all); k += 7 {
			l := []impl.Held{{Key: 9, Action: a}, {Key: 2, Action: all[k]}}
			if got, want := impl.ReportOf(l), reportByTheText(l); !sameAs(got, want) {
				t.Fatalf("ReportOf(%v) = %v, want %v", l, got, want)
			}
		}
		checkReportOf(t, []impl.Held{{Key: 31, Action: a}})
	}
}

func TestPromise6WhileKeysAreLetGo(t *testing.T) {
	source := rand.New(rand.NewSource(666))
	for _, l := range randomHeld(200) {
		for len(l) > 0 {
			at := source.Intn(len(l))
			before, gone := impl.ReportOf(l), l[at]
			l = slices.Delete(slices.Clone(l), at, at+1)
			after := impl.ReportOf(l)
			// Of what the key did, all is gone that no other key does; nothing else changes.
			for code := 1; code <= 56; code++ {
				mine := code == gone.Action.Code && !slices.ContainsFunc(l, func(h impl.Held) bool { return h.Action.Code == code })
				if slices.Contains(before.Keys, code) != (slices.Contains(after.Keys, code) || mine) || mine && slices.Contains(after.Keys, code) {
					t.Fatalf("%v is let go: %v becomes %v", gone, before, after)
				}
			}
			if before.Mods&^gone.Action.Mods != after.Mods&^gone.Action.Mods || after.Mods != reportByTheText(l).Mods {
				t.Fatalf("%v is let go: %v becomes %v", gone, before, after)
			}
		}
		if got := impl.ReportOf(l); !isZeroReport(got) {
			t.Errorf("all keys are let go: %v", got)
		}
	}
}

func TestIsReport(t *testing.T) {
	for _, r := range someReports() {
		if !impl.IsReport(r) {
			t.Errorf("IsReport(%v) = false", r)
		}
	}
	for _, r := range badReports() {
		if impl.IsReport(r) {
			t.Errorf("IsReport(%v) = true", r)
		}
	}
	for mods := -20; mods <= 40; mods++ {
		if got := impl.IsReport(impl.Report{Mods: mods, Keys: []int{3, 9}}); got != (mods >= 0 && mods <= 15) {
			t.Errorf("IsReport with the modifiers %d = %v", mods, got)
		}
	}
	for a := -1; a <= 58; a++ {
		for b := -1; b <= 58; b++ {
			for c := -1; c <= 58; c++ {
				r := impl.Report{Mods: 15, Keys: []int{a, b, c}}
				want := 1 <= a && a < b && b < c && c <= 56
				if got := impl.IsReport(r); got != want {
					t.Fatalf("IsReport(%v) = %v", r, got)
				}
			}
		}
	}
}

func TestSameReport(t *testing.T) {
	lists := [][]int{nil, {}, {1}, {2}, {1, 2}, {2, 1}, {1, 3}, {1, 2, 3}, {1, 1}, {0}, {57}, {-1}, {0, 0}, {math.MinInt}, {math.MaxInt}, allCodes(7), allCodes(56), append(allCodes(55), 57), allCodes(57)}
	var l []impl.Report
	for _, mods := range []int{0, 1, 2, 15, 16, -1, math.MinInt, math.MaxInt} {
		for _, keys := range lists {
			l = append(l, impl.Report{Mods: mods, Keys: keys})
		}
	}
	for _, a := range l {
		for _, b := range l {
			if got, want := impl.SameReport(a, b), sameAs(a, b); got != want {
				t.Errorf("SameReport(%v, %v) = %v", a, b, got)
			}
		}
	}
	// It does not matter where the keys are kept.
	room := append(make([]int, 0, 9), 4, 5)
	if !impl.SameReport(impl.Report{Mods: 3, Keys: room}, impl.Report{Mods: 3, Keys: []int{4, 5}}) || !impl.SameReport(impl.Report{Keys: nil}, impl.Report{Keys: room[:0]}) {
		t.Error("SameReport of equal reports = false")
	}
	reports := someReports()
	for i, a := range reports {
		for _, k := range []int{i, (i * 7) % len(reports), (i + 1) % len(reports)} {
			if got := impl.SameReport(a, reports[k]); got != sameAs(a, reports[k]) {
				t.Errorf("SameReport(%v, %v) = %v", a, reports[k], got)
			}
		}
	}
}

// textOf writes a valid report by the rules of the document alone.
func textOf(r impl.Report) string {
	letters := append([]string{""}, modsInOrder...)[r.Mods]
	var names []string
	for _, code := range r.Keys {
		names = append(names, namesInOrder[code-1])
	}
	return letters + ":" + strings.Join(names, ",")
}

// checkReport checks that a report is read from its text and its bytes as it was.
func checkReport(t *testing.T, r impl.Report) {
	t.Helper()
	s := textOf(r)
	if got := impl.FormatReport(r); got != s {
		t.Fatalf("FormatReport(%v) = %q, want %q", r, got, s)
	}
	if got, ok := impl.ParseReport(s); !ok || !sameAs(got, r) {
		t.Fatalf("ParseReport(%q) = %v, %v, want %v, true", s, got, ok, r)
	}
	b := impl.BitBytes(r)
	if got, ok := impl.ReadBits(b); !ok || !sameAs(got, r) {
		t.Fatalf("ReadBits(%v) = %v, %v, want %v, true", b, got, ok, r)
	}
	// Of more than six keys, the boot bytes leave the host those that it has.
	last := impl.Report{Mods: 9, Keys: []int{20, 21}}
	want := r
	if len(r.Keys) > 6 {
		want.Keys = last.Keys
	}
	b = impl.BootBytes(r)
	if got, ok := impl.ReadBoot(b, last); !ok || !sameAs(got, want) {
		t.Fatalf("ReadBoot(%v, %v) = %v, %v, want %v, true", b, last, got, ok, want)
	}
}

func TestFormatReport(t *testing.T) {
	cases := []struct{ letters, names, want string }{
		{"", "", ":"},
		{"S", "", "S:"},
		{"CSAG", "", "CSAG:"},
		{"", "a", ":a"},
		{"CS", "a b", "CS:a,b"},
		{"G", "0 enter space minus f9", "G:0,enter,space,minus,f9"},
		{"", "a b c d e f g", ":a,b,c,d,e,f,g"},
		{"CSAG", strings.Join(namesInOrder, " "), "CSAG:" + strings.Join(namesInOrder, ",")},
	}
	for _, c := range cases {
		r := reportOf(t, c.letters, c.names)
		if got := impl.FormatReport(r); got != c.want {
			t.Errorf("FormatReport(%v) = %q, want %q", r, got, c.want)
		}
		if got, ok := impl.ParseReport(c.want); !ok || !sameAs(got, r) {
			t.Errorf("ParseReport(%q) = %v, %v, want %v, true", c.want, got, ok, r)
		}
	}
	for _, r := range badReports() {
		if got := impl.FormatReport(r); got != "" {
			t.Errorf("FormatReport(%v) = %q, want none", r, got)
		}
	}
}

func TestReportsAreReadAsTheyWere(t *testing.T) {
	for _, r := range someReports() {
		checkReport(t, r)
	}
	for a := 1; a <= 56; a++ {
		for b := a + 1; b <= 56; b++ {
			checkReport(t, impl.Report{Mods: (a + b) % 16, Keys: []int{a, b}})
		}
	}
}

// reportOfText reads a text by the rules of the document alone: the names and letters in their order.
func reportOfText(s string) (impl.Report, bool) {
	parts := strings.Split(s, ":")
	r := impl.Report{Mods: slices.Index(modsInOrder, parts[0]) + 1}
	if len(parts) != 2 || r.Mods == 0 && parts[0] != "" {
		return impl.Report{}, false
	}
	if parts[1] == "" {
		return r, true
	}
	for _, name := range strings.Split(parts[1], ",") {
		r.Keys = append(r.Keys, slices.Index(namesInOrder, name)+1)
	}
	return r, isReportByTheText(r)
}

// checkReportText checks that a text is read if and only if it is the format of a report.
func checkReportText(t *testing.T, s string) bool {
	t.Helper()
	want, wantOK := reportOfText(s)
	if !wantOK {
		want = impl.Report{}
	}
	if got, ok := impl.ParseReport(s); ok != wantOK || !sameAs(got, want) {
		t.Fatalf("ParseReport(%.80q) = %v, %v, want %v, %v", s, got, ok, want, wantOK)
	}
	return wantOK
}

func TestParseReportReadsNothingElse(t *testing.T) {
	// Every text of up to six of these characters is read as its report or not at all.
	const characters = "CSa1f:, "
	read := 0
	var check func(s string)
	check = func(s string) {
		if checkReportText(t, s) {
			read++
		}
		for i := 0; i < len(characters) && len(s) < 6; i++ {
			check(s + characters[i:i+1])
		}
	}
	check("")
	want := 0
	for _, letters := range []string{"", "C", "S", "CS"} {
		for _, names := range []string{"", "a", "f", "1", "f1", "a,f", "a,1", "a,f1", "f,1", "f,f1", "1,f1", "a,f,1", "a,f,f1", "a,1,f1", "f,1,f1"} {
			if len(letters)+1+len(names) <= 6 {
				want++
			}
		}
	}
	if read != want {
		t.Errorf("%d formats were met, want %d", read, want)
	}
}

func TestParseReportOfChangedFormats(t *testing.T) {
	for _, s := range []string{":", "S:", "CSAG:", ":a", "C:q", "CS:a,b", "G:0,enter,space,minus,f9", ":a,b,c,d,e,f,g", "SA:1,f1,f2", ":tab,up"} {
		if !checkReportText(t, s) {
			t.Errorf("%q is no format", s)
		}
		for i := range len(s) + 1 {
			checkReportText(t, s[:i])
			checkReportText(t, s[i:])
			for _, c := range []string{"", ",", ":", ",,", "::", " ", "-", "a", "b", "f", "1", "0", "C", "S", "G", ",a", "a,", ":a", "C:", "\x00", "\xff"} {
				checkReportText(t, s[:i]+c+s[i:])
				if i < len(s) {
					checkReportText(t, s[:i]+c+s[i+1:])
				}
			}
		}
	}
}

func TestParseReportRejects(t *testing.T) {
	for _, s := range []string{
		"", " ", ",", "a", "S", "S-a", "CS", "\x00", "\xff", "none", "a,b", "S,a", "0200040500000000",
		" :", ": ", "::", ":::", ":a:", "::a", "S::a", "S:a:b", "S:S:", ":S:", ":,", ":,,", ":a,", ":,a", ":a,,b", "S:,",
		":b,a", ":a,a", ":a,b,a", ":a,c,b", ":f2,f1", ":0,1", ":f9,a", ":a,b,c,d,e,f,f",
		":A", ":zz", ":a b", ":a, b", ": a", ":a ", ":a;b", ":a.b", ":S-a", ":S", ":none", ":f0", ":f10", ":10", ":1,10", ":Enter", ":escape", ":-", ":=", ":a\n", ":a\x00", ":\u0430", ":a,\xff",
		"SC:", "SS:", "s:", "CSAGC:", "GC:a", "cs:a", "X:", "0:", "2:a", "-:", "S-:a", " S:", "S :", "C S:a", "C,S:a", "\u0421:",
		strings.Repeat(",", 5000), ":" + strings.Repeat(",", 5000), strings.Repeat(":", 5000), ":" + strings.Repeat("a,", 5000) + "a", strings.Repeat("C", 5000) + ":", ":" + strings.Repeat("a", 5000),
		":" + strings.Join(namesInOrder, ",") + ",f9", ":" + strings.Join(namesInOrder, ",") + ",", ":a," + strings.Join(namesInOrder, ","),
	} {
		if got, ok := impl.ParseReport(s); ok || !isZeroReport(got) {
			t.Errorf("ParseReport(%.80q) = %v, %v, want the zero value and false", s, got, ok)
		}
	}
}

func TestBootBytes(t *testing.T) {
	cases := []struct {
		letters, names string
		want           []byte
	}{
		{"", "", []byte{0, 0, 0, 0, 0, 0, 0, 0}},
		{"S", "", []byte{2, 0, 0, 0, 0, 0, 0, 0}},
		{"CSAG", "", []byte{15, 0, 0, 0, 0, 0, 0, 0}},
		{"S", "a b", []byte{2, 0, 4, 5, 0, 0, 0, 0}},
		{"", "f9", []byte{0, 0, 59, 0, 0, 0, 0, 0}},
		{"A", "a z 1 0 enter", []byte{4, 0, 4, 29, 30, 39, 40, 0}},
		{"G", "a b c d e f", []byte{8, 0, 4, 5, 6, 7, 8, 9}},
		{"", "f4 f5 f6 f7 f8 f9", []byte{0, 0, 54, 55, 56, 57, 58, 59}},
		{"", "a b c d e f g", []byte{0, 0, 1, 1, 1, 1, 1, 1}},
		{"CS", "a b c d e f g h", []byte{3, 0, 1, 1, 1, 1, 1, 1}},
		{"CSAG", strings.Join(namesInOrder, " "), []byte{15, 0, 1, 1, 1, 1, 1, 1}},
	}
	for _, c := range cases {
		if got := impl.BootBytes(reportOf(t, c.letters, c.names)); !bytes.Equal(got, c.want) {
			t.Errorf("BootBytes of %s:%s = %v, want %v", c.letters, c.names, got, c.want)
		}
	}
	for _, r := range badReports() {
		if got := impl.BootBytes(r); len(got) != 0 {
			t.Errorf("BootBytes(%v) = %v, want none", r, got)
		}
	}
}

func TestSevenKeys(t *testing.T) {
	l := heldOf(t, "g f e d c b a")
	crowded := []byte{0, 0, 1, 1, 1, 1, 1, 1}
	six, seven := impl.ReportOf(l[1:]), impl.ReportOf(l)
	if got := impl.FormatReport(six); got != ":a,b,c,d,e,f" {
		t.Errorf("six held keys are %s", got)
	}
	if got := impl.FormatReport(seven); got != ":a,b,c,d,e,f,g" {
		t.Errorf("seven held keys are %s", got)
	}
	if got := impl.BootBytes(seven); !bytes.Equal(got, crowded) {
		t.Errorf("BootBytes of seven keys = %v, want %v", got, crowded)
	}
	if got := impl.BitBytes(seven); !bytes.Equal(got, []byte{0, 127, 0, 0, 0, 0, 0, 0}) {
		t.Errorf("BitBytes of seven keys = %v", got)
	}
	// A seventh key with a code that is pressed already, or with none, does not count.
	for _, texts := range []string{"g f e d c b b", "g f e d c b S-", "g f e d c b none", "g f e d c b mo:1"} {
		if got := impl.BootBytes(impl.ReportOf(heldOf(t, texts))); !bytes.Equal(got[2:], []byte{5, 6, 7, 8, 9, 10}) {
			t.Errorf("BootBytes of %s = %v", texts, got)
		}
	}
	for mods := range 16 {
		for _, last := range someReports() {
			crowded[0] = byte(mods)
			want := impl.Report{Mods: mods, Keys: last.Keys}
			if got, ok := impl.ReadBoot(crowded, last); !ok || !sameAs(got, want) {
				t.Fatalf("ReadBoot(%v, %v) = %v, %v, want %v, true", crowded, last, got, ok, want)
			}
		}
	}
	// Any seven keys are too many, and any six are not.
	source := rand.New(rand.NewSource(67))
	for range 3000 {
		keys := source.Perm(56)[:7]
		for i := range keys {
			keys[i]++
		}
		six := slices.Sorted(slices.Values(keys[:6]))
		slices.Sort(keys)
		checkReport(t, impl.Report{Mods: keys[0] % 16, Keys: six})
		checkReport(t, impl.Report{Mods: keys[0] % 16, Keys: keys})
		if got := impl.BootBytes(impl.Report{Keys: keys}); !bytes.Equal(got[2:], crowded[2:]) {
			t.Fatalf("BootBytes of %v = %v", keys, got)
		}
	}
}

// bootByTheText reads the bytes by the rules of the document alone.
func bootByTheText(b []byte, last impl.Report) (impl.Report, bool) {
	if len(b) != 8 || b[0] > 15 || b[1] != 0 || !isReportByTheText(last) {
		return impl.Report{}, false
	}
	r := impl.Report{Mods: int(b[0])}
	if bytes.Equal(b[2:], bytes.Repeat([]byte{1}, 6)) {
		r.Keys = last.Keys
		return r, true
	}
	for _, x := range bytes.TrimRight(b[2:], "\x00") {
		r.Keys = append(r.Keys, int(x)-3)
	}
	return r, isReportByTheText(r)
}

// checkBoot checks that bytes are read if and only if they tell of a report.
func checkBoot(t *testing.T, b []byte, last impl.Report) bool {
	t.Helper()
	want, wantOK := bootByTheText(b, last)
	if !wantOK {
		want = impl.Report{}
	}
	if got, ok := impl.ReadBoot(b, last); ok != wantOK || !sameAs(got, want) {
		t.Fatalf("ReadBoot(%v, %v) = %v, %v, want %v, %v", b, last, got, ok, want, wantOK)
	}
	return wantOK
}

func TestReadBoot(t *testing.T) {
	q, none := reportOf(t, "", "q"), impl.Report{}
	cases := []struct {
		b    []byte
		last impl.Report
		want string
	}{
		{[]byte{0, 0, 0, 0, 0, 0, 0, 0}, none, ":"},
		{[]byte{0, 0, 0, 0, 0, 0, 0, 0}, q, ":"},
		{[]byte{15, 0, 0, 0, 0, 0, 0, 0}, q, "CSAG:"},
		{[]byte{2, 0, 4, 5, 0, 0, 0, 0}, q, "S:a,b"},
		{[]byte{0, 0, 4, 5, 6, 7, 8, 59}, q, ":a,b,c,d,e,f9"},
		{[]byte{1, 0, 1, 1, 1, 1, 1, 1}, q, "C:q"},
		{[]byte{0, 0, 1, 1, 1, 1, 1, 1}, none, ":"},
		// the modifiers are those of the byte, not those of the last report
		{[]byte{2, 0, 1, 1, 1, 1, 1, 1}, reportOf(t, "C", "a b"), "S:a,b"},
		{[]byte{0, 0, 1, 1, 1, 1, 1, 1}, reportOf(t, "CSAG", "a"), ":a"},
		// the last report may have more keys than there are places
		{[]byte{8, 0, 1, 1, 1, 1, 1, 1}, reportOf(t, "", "a b c d e f g h"), "G:a,b,c,d,e,f,g,h"},
		{[]byte{16, 0, 0, 0, 0, 0, 0, 0}, none, ""},
		{[]byte{16, 0, 1, 1, 1, 1, 1, 1}, q, ""},
		{[]byte{255, 0, 4, 0, 0, 0, 0, 0}, q, ""},
		{[]byte{0, 1, 0, 0, 0, 0, 0, 0}, none, ""},
		{[]byte{0, 1, 1, 1, 1, 1, 1, 1}, q, ""},
		{[]byte{0, 255, 4, 0, 0, 0, 0, 0}, q, ""},
		// a place is free before a key
		{[]byte{0, 0, 0, 4, 0, 0, 0, 0}, none, ""},
		{[]byte{0, 0, 4, 0, 5, 0, 0, 0}, none, ""},
		{[]byte{0, 0, 0, 0, 0, 0, 0, 4}, none, ""},
		// no keys, the same key twice, and keys that do not ascend
		{[]byte{0, 0, 1, 0, 0, 0, 0, 0}, q, ""},
		{[]byte{0, 0, 3, 0, 0, 0, 0, 0}, q, ""},
		{[]byte{0, 0, 60, 0, 0, 0, 0, 0}, q, ""},
		{[]byte{0, 0, 255, 0, 0, 0, 0, 0}, q, ""},
		{[]byte{0, 0, 4, 4, 0, 0, 0, 0}, q, ""},
		{[]byte{0, 0, 5, 4, 0, 0, 0, 0}, q, ""},
		// only all six places tell of too many keys
		{[]byte{0, 0, 1, 1, 1, 1, 1, 0}, q, ""},
		{[]byte{0, 0, 0, 1, 1, 1, 1, 1}, q, ""},
		{[]byte{0, 0, 1, 1, 1, 4, 1, 1}, q, ""},
		{[]byte{0, 0, 2, 2, 2, 2, 2, 2}, q, ""},
		{[]byte{0, 0, 3, 3, 3, 3, 3, 3}, q, ""},
	}
	for _, c := range cases {
		checkBoot(t, c.b, c.last)
		got, ok := impl.ReadBoot(c.b, c.last)
		if s := impl.FormatReport(got); ok != (c.want != "") || ok && s != c.want || !ok && !isZeroReport(got) {
			t.Errorf("ReadBoot(%v, %v) = %v, %v, want %q", c.b, c.last, got, ok, c.want)
		}
	}
}

func TestReadBootReadsNothingElse(t *testing.T) {
	last := impl.Report{Mods: 1, Keys: []int{17, 18}}
	values := []byte{0, 1, 2, 3, 4, 5, 6, 59, 60, 255}
	b := make([]byte, 8)
	read := 0
	for n := range 1000000 {
		for at, rest := 2, n; at < 8; at, rest = at+1, rest/10 {
			b[at] = values[rest%10]
		}
		b[0] = byte(n % 16)
		if checkBoot(t, b, last) {
			read++
		}
	}
	// All sets of four codes, and what tells of too many keys.
	if read != 17 {
		t.Errorf("%d lists of places are read, want 17", read)
	}
	for i, r := range someReports() {
		// Every seventh one is enough for all modifiers, and for few keys and many.
		if i%7 != 0 {
			continue
		}
		b := impl.BootBytes(r)
		for i := range b {
			for x := range 256 {
				changed := slices.Clone(b)
				changed[i] = byte(x)
				checkBoot(t, changed, last)
			}
			checkBoot(t, b[:i], last)
			checkBoot(t, b[i+1:], last)
		}
		checkBoot(t, append(slices.Clone(b), 0), last)
		checkBoot(t, append(slices.Clone(b), b...), last)
	}
}

func TestReadBootRejects(t *testing.T) {
	for _, b := range [][]byte{{0, 0, 0, 0, 0, 0, 0, 0}, {2, 0, 4, 5, 0, 0, 0, 0}, {1, 0, 1, 1, 1, 1, 1, 1}} {
		// A last report that is not valid counts also if the bytes tell all by themselves.
		for _, last := range badReports() {
			if got, ok := impl.ReadBoot(b, last); ok || !isZeroReport(got) {
				t.Errorf("ReadBoot(%v, %v) = %v, %v, want the zero value and false", b, last, got, ok)
			}
		}
	}
	for n := range 20 {
		for _, x := range []byte{0, 1, 4} {
			b := append([]byte{0, 0}, bytes.Repeat([]byte{x}, n)...)
			checkBoot(t, b, impl.Report{})
			checkBoot(t, b[1:], impl.Report{})
			checkBoot(t, b[:n], impl.Report{})
		}
	}
	checkBoot(t, nil, impl.Report{})
	checkBoot(t, make([]byte, 1000), impl.Report{})
}

func TestBitBytes(t *testing.T) {
	cases := []struct {
		letters, names string
		want           []byte
	}{
		{"", "", []byte{0, 0, 0, 0, 0, 0, 0, 0}},
		{"S", "a b", []byte{2, 3, 0, 0, 0, 0, 0, 0}},
		{"CSAG", "", []byte{15, 0, 0, 0, 0, 0, 0, 0}},
		{"", "h", []byte{0, 128, 0, 0, 0, 0, 0, 0}},
		{"", "i", []byte{0, 0, 1, 0, 0, 0, 0, 0}},
		{"", "p q", []byte{0, 0, 128, 1, 0, 0, 0, 0}},
		{"C", "f9", []byte{1, 0, 0, 0, 0, 0, 0, 128}},
		{"G", "f1", []byte{8, 0, 0, 0, 0, 0, 128, 0}},
		{"", "f2", []byte{0, 0, 0, 0, 0, 0, 0, 1}},
		{"", "z 1", []byte{0, 0, 0, 0, 6, 0, 0, 0}},
		{"CSAG", strings.Join(namesInOrder, " "), []byte{15, 255, 255, 255, 255, 255, 255, 255}},
	}
	for _, c := range cases {
		r := reportOf(t, c.letters, c.names)
		if got := impl.BitBytes(r); !bytes.Equal(got, c.want) {
			t.Errorf("BitBytes of %s:%s = %v, want %v", c.letters, c.names, got, c.want)
		}
		if got, ok := impl.ReadBits(c.want); !ok || !sameAs(got, r) {
			t.Errorf("ReadBits(%v) = %v, %v, want %v, true", c.want, got, ok, r)
		}
	}
	for _, r := range badReports() {
		if got := impl.BitBytes(r); len(got) != 0 {
			t.Errorf("BitBytes(%v) = %v, want none", r, got)
		}
	}
}

func TestReadBits(t *testing.T) {
	// Each byte with each value: the keys are the places of the bits, counted from 1.
	for at := range 8 {
		for x := range 256 {
			b := make([]byte, 8)
			b[at] = byte(x)
			want := impl.Report{Mods: x}
			if at > 0 {
				want.Mods = 0
				for bit := range 8 {
					if isOn(x, bit) {
						want.Keys = append(want.Keys, 8*(at-1)+bit+1)
					}
				}
			}
			wantOK := at > 0 || x <= 15
			if !wantOK {
				want = impl.Report{}
			}
			got, ok := impl.ReadBits(b)
			if ok != wantOK || !sameAs(got, want) {
				t.Fatalf("ReadBits(%v) = %v, %v, want %v, %v", b, got, ok, want, wantOK)
			}
			if ok && !bytes.Equal(impl.BitBytes(got), b) {
				t.Fatalf("BitBytes(%v) = %v, want %v", got, impl.BitBytes(got), b)
			}
		}
	}
	source := rand.New(rand.NewSource(78))
	for range 5000 {
		b := make([]byte, 8)
		source.Read(b)
		b[0] %= 16
		if got, ok := impl.ReadBits(b); !ok || !isReportByTheText(got) || !bytes.Equal(impl.BitBytes(got), b) {
			t.Fatalf("ReadBits(%v) = %v, %v", b, got, ok)
		}
	}
}

func TestReadBitsRejects(t *testing.T) {
	lists := [][]byte{nil, {}, {0}, make([]byte, 1000), bytes.Repeat([]byte{255}, 8), {16, 0, 0, 0, 0, 0, 0, 0}, {16, 1, 0, 0, 0, 0, 0, 0}, {255, 0, 0, 0, 0, 0, 0, 1}}
	for n := range 20 {
		if n != 8 {
			lists = append(lists, make([]byte, n), bytes.Repeat([]byte{1}, n))
		}
	}
	for _, b := range lists {
		if got, ok := impl.ReadBits(b); ok || !isZeroReport(got) {
			t.Errorf("ReadBits(%v) = %v, %v, want the zero value and false", b, got, ok)
		}
	}
}

func TestReportResultsAreNewMemory(t *testing.T) {
	l := heldOf(t, "c a b")
	results := map[string]func() []int{
		"ReportOf":    func() []int { return impl.ReportOf(l).Keys },
		"ParseReport": func() []int { r, _ := impl.ParseReport(":a,b,c"); return r.Keys },
		"ReadBits":    func() []int { r, _ := impl.ReadBits([]byte{0, 7, 0, 0, 0, 0, 0, 0}); return r.Keys },
		"ReadBoot":    func() []int { r, _ := impl.ReadBoot([]byte{0, 0, 4, 5, 6, 0, 0, 0}, impl.Report{}); return r.Keys },
	}
	for name, result := range results {
		first, second := result(), result()
		overwrite(first[:cap(first)])
		if third := result(); !slices.Equal(second, []int{1, 2, 3}) || !slices.Equal(third, second) {
			t.Errorf("%s gives out the same memory again: %v, %v", name, second, third)
		}
	}
	seven := impl.Report{Mods: 3, Keys: allCodes(7)}
	for name, result := range map[string]func(impl.Report) []byte{"BootBytes": impl.BootBytes, "BitBytes": impl.BitBytes} {
		for _, r := range []impl.Report{seven, {Mods: 3, Keys: []int{1, 2}}} {
			first, second := result(r), result(r)
			clear(first[:cap(first)])
			if third := result(r); second[0] != 3 || !bytes.Equal(second, third) {
				t.Errorf("%s gives out the same memory again: %v, %v", name, second, third)
			}
		}
	}
}

func TestReadBootSharesNothingWithTheLastReport(t *testing.T) {
	crowded := []byte{4, 0, 1, 1, 1, 1, 1, 1}
	room := append(make([]int, 0, 9), 4, 5, 6, 7)
	last := impl.Report{Mods: 1, Keys: room[:2]}
	got, ok := impl.ReadBoot(crowded, last)
	if !ok || !sameAs(got, impl.Report{Mods: 4, Keys: []int{4, 5}}) {
		t.Fatalf("ReadBoot(%v, %v) = %v, %v", crowded, last, got, ok)
	}
	overwrite(got.Keys[:cap(got.Keys)])
	if !slices.Equal(room, []int{4, 5, 6, 7}) {
		t.Errorf("the keys of the last report have become %v", room)
	}
	got, _ = impl.ReadBoot(crowded, last)
	room[0], crowded[0] = 1, 2
	if !sameAs(got, impl.Report{Mods: 4, Keys: []int{4, 5}}) {
		t.Errorf("the result has become %v", got)
	}
	// The unused capacity of a list without keys is not given out either.
	got, _ = impl.ReadBoot(crowded, impl.Report{Keys: room[:0]})
	got.Keys = append(got.Keys, 50, 51)
	if !slices.Equal(room, []int{1, 5, 6, 7}) {
		t.Errorf("the unused capacity of the argument has become %v", room)
	}
}

func TestReportsLeaveTheirArguments(t *testing.T) {
	held := heldOf(t, "S- b a C-a mo:2 mo:2 b once:G")
	heldBefore := slices.Clone(held)
	keys := []int{3, 1, 2, 9, 20, 21, 22, 23, 24, 8}
	keysBefore := slices.Clone(keys)
	b := []byte{2, 0, 4, 5, 0, 0, 0, 0, 9, 9}
	bytesBefore := slices.Clone(b)
	for n := range len(held) + 1 {
		impl.IsHeld(held[:n])
		impl.LayersOn(2, held[:n])
		overwrite(impl.ReportOf(held[:n]).Keys)
	}
	for from := range keys {
		for to := from; to <= len(keys); to++ {
			r := impl.Report{Mods: 2, Keys: keys[from:to]}
			impl.IsReport(r)
			impl.SameReport(r, r)
			impl.FormatReport(r)
			clear(impl.BootBytes(r))
			clear(impl.BitBytes(r))
			impl.ReadBoot(b[:8], r)
		}
	}
	for n := range len(b) + 1 {
		if r, ok := impl.ReadBoot(b[:n], impl.Report{}); ok {
			overwrite(r.Keys)
		}
		if r, ok := impl.ReadBits(b[:n]); ok {
			overwrite(r.Keys)
		}
	}
	if !slices.Equal(held, heldBefore) || !slices.Equal(keys, keysBefore) || !bytes.Equal(b, bytesBefore) {
		t.Errorf("the arguments have become %v, %v and %v", held, keys, b)
	}
}
