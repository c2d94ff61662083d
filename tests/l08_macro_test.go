package tests

import (
	"math"
	"math/rand"
	"slices"
	"strings"
	"testing"

	"loop.example/g03414/impl"
)

// stepsOf returns the steps that a text names, whether they are a valid macro or not.
func stepsOf(t *testing.T, text string) []impl.Step {
	t.Helper()
	l, ok := stepsOfText(actionsOfTexts(), text)
	if !ok {
		t.Fatalf("%q has a part that is no step", text)
	}
	return l
}

// stepsOfText reads a text by the rules of the document alone, but for those of the steps together.
func stepsOfText(actions map[string]impl.Action, text string) ([]impl.Step, bool) {
	l := []impl.Step{}
	if text == "" {
		return l, true
	}
	for _, part := range strings.Split(text, " ") {
		kind := slices.IndexFunc([]string{"t=", "d=", "u="}, func(head string) bool { return strings.HasPrefix(part, head) })
		if kind < 0 {
			return nil, false
		}
		a, ok := actions[part[2:]]
		if !ok || a.Kind != impl.ActKey {
			return nil, false
		}
		l = append(l, impl.Step{Kind: kind, Code: a.Code, Mods: a.Mods})
	}
	return l, true
}

// canPress reports whether the step has one of the kinds, and what it presses is a valid ActKey.
func canPress(s impl.Step) bool {
	return slices.Contains([]int{0, 1, 2}, s.Kind) && s.Code >= 0 && s.Code <= 56 && s.Mods >= 0 && s.Mods <= 15 && (s.Code != 0 || s.Mods != 0)
}

// isDownAfter tells by the last MacroDown or MacroUp with the same press whether it is down.
func isDownAfter(l []impl.Step, press impl.Step) bool {
	for _, s := range slices.Backward(l) {
		if s.Code == press.Code && s.Mods == press.Mods && s.Kind != impl.MacroTap {
			return s.Kind == impl.MacroDown
		}
	}
	return false
}

func isMacroByTheText(l []impl.Step) bool {
	for i, s := range l {
		if !canPress(s) || isDownAfter(l[:i], s) != (s.Kind == impl.MacroUp) || isDownAfter(l, s) {
			return false
		}
	}
	return len(l) <= 8
}

// shownByTheText returns what is held together with what a macro has down after some steps.
func shownByTheText(held []impl.Held, l []impl.Step) impl.Report {
	all := slices.Clone(held)
	for _, s := range l {
		if isDownAfter(l, s) {
			all = append(all, impl.Held{Action: impl.Action{Kind: impl.ActKey, Code: s.Code, Mods: s.Mods}})
		}
	}
	return reportByTheText(all)
}

// macroByTheText replaces each tap by going down and up.
func macroByTheText(held []impl.Held, l []impl.Step) []impl.Report {
	var single []impl.Step
	for _, s := range l {
		if s.Kind == impl.MacroTap {
			single = append(single, impl.Step{Kind: impl.MacroDown, Code: s.Code, Mods: s.Mods}, impl.Step{Kind: impl.MacroUp, Code: s.Code, Mods: s.Mods})
		} else {
			single = append(single, s)
		}
	}
	var reports []impl.Report
	for i := range single {
		reports = append(reports, shownByTheText(held, single[:i+1]))
	}
	return reports
}

func sameReports(a []impl.Report, b []impl.Report) bool { return slices.EqualFunc(a, b, sameAs) }

// textOfSteps writes steps that can be written, whether they are a valid macro or not.
func textOfSteps(l []impl.Step) (string, bool) {
	var parts []string
	for _, s := range l {
		if !canPress(s) {
			return "", false
		}
		key := ""
		if s.Mods > 0 {
			key = modsInOrder[s.Mods-1] + "-"
		}
		if s.Code > 0 {
			key += namesInOrder[s.Code-1]
		}
		parts = append(parts, []string{"t=", "d=", "u="}[s.Kind]+key)
	}
	return strings.Join(parts, " "), true
}

// checkMacro checks all functions with any steps, and whether they are a macro.
func checkMacro(t *testing.T, held []impl.Held, l []impl.Step) bool {
	t.Helper()
	want := isMacroByTheText(l)
	if got := impl.IsMacro(l); got != want {
		t.Fatalf("IsMacro(%v) = %v", l, got)
	}
	text, writable := textOfSteps(l)
	if !want {
		checkNoMacro(t, held, l)
		if writable {
			checkMacroRejected(t, text)
		}
		return false
	}
	reports := impl.MacroReports(held, l)
	if wanted := macroByTheText(held, l); !sameReports(reports, wanted) {
		t.Fatalf("MacroReports(%v, %v) = %v, want %v", held, l, reports, wanted)
	}
	if n := len(reports); n > 0 && !sameAs(reports[n-1], impl.ReportOf(held)) {
		t.Fatalf("after %v, the report of %v is %v", l, held, reports[n-1])
	}
	if got := impl.FormatMacro(l); got != text {
		t.Fatalf("FormatMacro(%v) = %q, want %q", l, got, text)
	}
	if got, ok := impl.ParseMacro(text); !ok || !slices.Equal(got, l) {
		t.Fatalf("ParseMacro(%q) = %v, %v, want %v, true", text, got, ok, l)
	}
	return true
}

func checkNoMacro(t *testing.T, held []impl.Held, l []impl.Step) {
	t.Helper()
	if impl.IsMacro(l) {
		t.Fatalf("IsMacro(%v) = true", l)
	}
	if got := impl.MacroReports(held, l); len(got) != 0 {
		t.Fatalf("MacroReports(%v, %v) = %v, want none", held, l, got)
	}
	if got := impl.FormatMacro(l); got != "" {
		t.Fatalf("FormatMacro(%v) = %q, want none", l, got)
	}
}

func checkMacroRejected(t *testing.T, s string) {
	t.Helper()
	if got, ok := impl.ParseMacro(s); ok || len(got) != 0 {
		t.Fatalf("ParseMacro(%.80q) = %v, %v, want none and false", s, got, ok)
	}
}

// macroTexts are formats of macros, written down from the text of the document.
var macroTexts = []string{
	"",
	"t=a",
	"t=S-",
	"t=CSAG-f9",
	"d=a u=a",
	"d=S- t=b u=S-",
	"t=a t=a t=a",
	"d=a u=a d=a u=a t=a d=a u=a",
	// what goes down first may go up first, or last
	"d=a d=b u=a u=b",
	"d=a d=b u=b u=a",
	"d=C- d=S- d=a u=S- u=a u=C-",
	"d=a d=b d=c d=d u=b u=d u=a u=c",
	"d=a d=b d=c d=d u=d u=c u=b u=a",
	"d=a d=b d=c d=d u=a u=b u=c u=d",
	// the same code with other modifiers is another press
	"d=a d=S-a d=S- u=a u=S-a u=S-",
	"d=a t=S-a u=a",
	"d=S-a t=a t=S- t=C-a t=S-b u=S-a",
	"d=CS- t=C- t=S- u=CS-",
	"d=C- d=S- t=CS- u=C- u=S-",
	// MaxSteps steps
	"t=a t=b t=c t=d t=e t=f t=g t=h",
	"d=S- t=h t=e t=l t=l t=o u=S- t=enter",
	"t=minus t=equal t=space t=0 t=1 t=G- t=A-tab t=esc",
}

// badMacroTexts name steps that are each no macro for one reason.
var badMacroTexts = []string{
	// something is down at the end
	"d=a", "d=S-", "t=a d=a", "d=a u=a d=a", "d=a d=b u=a", "d=a d=b u=b", "d=S- t=b", "d=a d=b d=c u=a u=c", "d=a d=S-a u=a",
	// a step lets go what is not down
	"u=a", "u=S-", "t=a u=a", "u=a d=a", "u=a t=a", "u=a u=a", "u=a d=a u=a", "d=a u=a u=a", "d=a u=a u=b", "d=a u=b u=a", "d=a u=b", "d=b t=a u=a u=b", "d=a u=a t=a u=a", "d=a d=b u=a u=a u=b", "d=a d=b u=b u=b u=a", "d=a d=b u=a u=b u=a",
	// it is another press that is down
	"d=a u=S-a", "d=S-a u=a", "d=S-a u=S-", "d=S- u=S-a", "d=CS- u=C-", "d=C- d=S- u=CS-", "d=S- d=a u=S-a", "d=S-a u=S- u=a", "d=a u=S-a u=a", "d=CS- u=C- u=S-", "d=a u=z", "d=C-a u=S-a u=C-a",
	// a step presses what is down
	"d=a t=a u=a", "d=a d=a u=a", "d=a d=a u=a u=a", "d=S- t=S- u=S-", "d=a d=b t=a u=a u=b", "d=a d=b t=b u=a u=b", "d=a d=b d=a u=b u=a", "d=a d=b d=a u=a u=b u=a", "d=b d=a u=b t=a u=a", "d=S-a t=b t=S-a u=S-a",
	// more than MaxSteps steps
	"t=a t=b t=c t=d t=e t=f t=g t=h t=i", "t=a t=a t=a t=a t=a t=a t=a t=a t=a", "d=a t=b t=c t=d t=e t=f t=g t=h u=a", "d=a u=a d=a u=a d=a u=a d=a u=a d=a u=a", "d=a d=b d=c d=d d=e u=e u=d u=c u=b u=a", "d=a d=b d=c d=d d=e d=f d=g d=h u=h u=g u=f u=e u=d u=c u=b u=a",
}

func TestIsMacro(t *testing.T) {
	for _, text := range macroTexts {
		if !impl.IsMacro(stepsOf(t, text)) {
			t.Errorf("IsMacro of %q = false", text)
		}
		if !checkMacro(t, nil, stepsOf(t, text)) {
			t.Errorf("%q is no macro", text)
		}
	}
	if !impl.IsMacro(nil) || !impl.IsMacro([]impl.Step{}) {
		t.Error("IsMacro of no steps = false")
	}
	held := heldOf(t, "a S-")
	for _, text := range badMacroTexts {
		checkNoMacro(t, held, stepsOf(t, text))
		checkMacroRejected(t, text)
		if checkMacro(t, held, stepsOf(t, text)) {
			t.Errorf("%q is a macro", text)
		}
	}
}

func TestStepsThatLetGoWhatIsNotDown(t *testing.T) {
	for _, s := range everyTap() {
		press, release := s, s
		press.Kind, release.Kind = impl.MacroDown, impl.MacroUp
		checkMacro(t, nil, []impl.Step{press, release})
		for _, l := range [][]impl.Step{{release}, {s, release}, {release, s}, {release, press}, {press, release, release}, {press, release, s, release}} {
			checkNoMacro(t, nil, l)
			text, _ := textOfSteps(l)
			checkMacroRejected(t, text)
		}
	}
	// What a held key has down is not down for the macro: it neither lets it go nor must not press it.
	held := heldOf(t, "a S- S-a")
	for _, text := range []string{"u=a", "u=S-", "u=S-a", "u=a d=a"} {
		checkNoMacro(t, held, stepsOf(t, text))
	}
	for _, text := range []string{"t=a", "d=a u=a", "t=S-", "d=S-a t=S- u=S-a"} {
		if !checkMacro(t, held, stepsOf(t, text)) {
			t.Errorf("%q is no macro", text)
		}
	}
}

// everyTap has a tap of every valid press.
func everyTap() []impl.Step {
	var l []impl.Step
	for code := range 57 {
		for mods := range 16 {
			if code != 0 || mods != 0 {
				l = append(l, impl.Step{Code: code, Mods: mods})
			}
		}
	}
	return l
}

func TestMacrosOfEachPress(t *testing.T) {
	held := heldOf(t, "C-z")
	all := everyTap()
	for i, s := range all {
		if !checkMacro(t, held, []impl.Step{s}) {
			t.Fatalf("%v is no macro", s)
		}
		// Two presses are the same if and only if both numbers are.
		for k := i % 5; k < len(all); k += 5 {
			l := []impl.Step{{Kind: impl.MacroDown, Code: s.Code, Mods: s.Mods}, all[k], {Kind: impl.MacroUp, Code: s.Code, Mods: s.Mods}}
			if got := impl.IsMacro(l); got != (k != i) {
				t.Fatalf("IsMacro(%v) = %v", l, got)
			}
			l[1] = impl.Step{Kind: impl.MacroUp, Code: all[k].Code, Mods: all[k].Mods}
			if got := impl.IsMacro(l[:2]); got != (k == i) {
				t.Fatalf("IsMacro(%v) = %v", l[:2], got)
			}
		}
	}
}

// badSteps are invalid, whatever comes before or behind them.
func badSteps() []impl.Step {
	l := []impl.Step{{}, {Kind: impl.MacroDown}, {Kind: impl.MacroUp}, {Code: 5, Mods: -5}, {Code: -5, Mods: 5}, {Code: 57, Mods: -1}, {Code: math.MinInt, Mods: math.MinInt}}
	for _, n := range noNumbers {
		l = append(l, impl.Step{Kind: n, Code: 1}, impl.Step{Kind: n, Mods: 1}, impl.Step{Kind: n})
		for kind := range 3 {
			l = append(l, impl.Step{Kind: kind, Code: n}, impl.Step{Kind: kind, Code: n, Mods: 1}, impl.Step{Kind: kind, Mods: n}, impl.Step{Kind: kind, Code: 1, Mods: n})
		}
	}
	for _, n := range []int{3, 4, 5, 63, 64, 255, 256, 257} {
		l = append(l, impl.Step{Kind: n, Code: 1}, impl.Step{Kind: n, Mods: 1})
	}
	for kind := range 3 {
		for _, n := range []int{57, 58, 63, 64, 255, 256, 257} {
			l = append(l, impl.Step{Kind: kind, Code: n}, impl.Step{Kind: kind, Code: n, Mods: 15}, impl.Step{Kind: kind, Mods: n}, impl.Step{Kind: kind, Code: 1, Mods: n})
		}
		for _, n := range []int{16, 17, 31, 32} {
			l = append(l, impl.Step{Kind: kind, Mods: n}, impl.Step{Kind: kind, Code: 56, Mods: n})
		}
	}
	return l
}

func TestMacrosWithBadSteps(t *testing.T) {
	held := heldOf(t, "b")
	good := stepsOf(t, "d=S- t=b u=S-")
	for _, s := range badSteps() {
		down, up := s, s
		down.Kind, up.Kind = impl.MacroDown, impl.MacroUp
		lists := [][]impl.Step{{s}, {s, s}, {s, up}, {down, s}, {down, s, up}}
		// If the kind alone is bad, its press goes down and up in a good macro.
		if canPress(down) {
			checkMacro(t, held, []impl.Step{down, up})
		} else {
			lists = append(lists, []impl.Step{down, up})
		}
		for at := range len(good) + 1 {
			lists = append(lists, slices.Insert(slices.Clone(good), at, s))
		}
		for _, l := range lists {
			if checkMacro(t, held, l) {
				t.Errorf("%v is a macro", l)
			}
			checkNoMacro(t, held, l)
		}
	}
}

func TestMacrosHaveUpToEightSteps(t *testing.T) {
	held := heldOf(t, "a S-")
	taps := everyTap()
	for n := range 40 {
		// The same tap again and again, and another one each time.
		for _, l := range [][]impl.Step{slices.Repeat(taps[20:21], n), taps[:n]} {
			if got := checkMacro(t, held, l); got != (n <= 8) {
				t.Errorf("IsMacro of %d taps = %v", n, got)
			}
		}
		var nested []impl.Step
		for i := range n {
			nested = append(nested, impl.Step{Kind: impl.MacroDown, Code: i + 1})
		}
		for i := range n {
			nested = append(nested, impl.Step{Kind: impl.MacroUp, Code: i + 1})
		}
		if got := checkMacro(t, held, nested); got != (n <= 4) {
			t.Errorf("IsMacro of %d presses and %d releases = %v", n, n, got)
		}
	}
	checkNoMacro(t, held, slices.Repeat(taps[:1], 100000))
	checkNoMacro(t, held, make([]impl.Step, 100000))
}

func TestMacroReports(t *testing.T) {
	cases := []struct{ held, macro, want string }{
		{"", "", ""},
		{"a", "", ""},
		{"", "t=a", ":a :"},
		{"", "t=S-", "S: :"},
		{"", "t=S-a", "S:a :"},
		{"", "d=S- t=b u=S-", "S: S:b S: :"},
		{"", "d=a u=a", ":a :"},
		{"", "t=a t=a", ":a : :a :"},
		{"", "d=b d=a u=b u=a", ":b :a,b :a :"},
		{"", "d=S-a t=C-b u=S-a", "S:a CS:a,b S:a :"},
		// a press that has a part of another one leaves that part
		{"", "d=a t=S-a u=a", ":a S:a :a :"},
		{"", "d=S-a t=a u=S-a", "S:a S:a S:a :"},
		{"", "d=C- t=CS- u=C-", "C: CS: C: :"},
		// what is held stays
		{"b", "t=a", ":a,b :b"},
		{"a", "t=a", ":a :a"},
		{"S-a", "t=a", "S:a S:a"},
		{"a", "t=S-a", "S:a :a"},
		{"S-", "t=S-b", "S:b S:"},
		{"C- z", "d=S- t=y u=S-", "CS:z CS:y,z CS:z C:z"},
		{"once:A mo:1 none macro:0 caps tg:2 to:3", "t=f9", "A:f9 A:"},
		{"f9 S-1 once:G", "d=a d=C- u=a u=C-", "SG:a,1,f9 CSG:a,1,f9 CSG:1,f9 SG:1,f9"},
		// more keys than the boot bytes have places for
		{"a b c d e f", "t=g", ":a,b,c,d,e,f,g :a,b,c,d,e,f"},
		// two equal reports, one after the other, are both returned
		{"a", "d=a d=S- u=a u=S-", ":a S:a S:a :a"},
	}
	for _, c := range cases {
		var got []string
		for _, r := range impl.MacroReports(heldOf(t, c.held), stepsOf(t, c.macro)) {
			got = append(got, textOf(r))
		}
		if s := strings.Join(got, " "); s != c.want {
			t.Errorf("MacroReports of %q and %q = %s, want %s", c.held, c.macro, s, c.want)
		}
		checkMacro(t, heldOf(t, c.held), stepsOf(t, c.macro))
	}
	if got := impl.MacroReports(nil, nil); len(got) != 0 {
		t.Errorf("MacroReports(nil, nil) = %v", got)
	}
	if got := impl.MacroReports(nil, stepsOf(t, "t=a")); !sameReports(got, []impl.Report{{Keys: []int{1}}, {}}) {
		t.Errorf("MacroReports of nothing held = %v", got)
	}
}

func TestMacroReportsOfBadHeldKeys(t *testing.T) {
	for _, text := range macroTexts {
		l := stepsOf(t, text)
		for _, held := range badHeld(t) {
			if got := impl.MacroReports(held, l); len(got) != 0 {
				t.Fatalf("MacroReports(%v, %v) = %v, want none", held, l, got)
			}
		}
	}
	// Neither is valid.
	for _, held := range badHeld(t) {
		checkNoMacro(t, held, stepsOf(t, "u=a"))
	}
}

// shortSteps are the steps of three presses that have parts in common.
func shortSteps() []impl.Step {
	var l []impl.Step
	for kind := range 3 {
		l = append(l, impl.Step{Kind: kind, Code: 1}, impl.Step{Kind: kind, Mods: 2}, impl.Step{Kind: kind, Code: 1, Mods: 2})
	}
	return l
}

func TestPromise6OfAllShortMacros(t *testing.T) {
	held := [][]impl.Held{nil, heldOf(t, "a"), heldOf(t, "b S-"), heldOf(t, "C-a once:S")}
	steps := shortSteps()
	macros := 0
	var check func(l []impl.Step)
	check = func(l []impl.Step) {
		if checkMacro(t, held[len(l)%len(held)], l) {
			macros++
		}
		for i := 0; i < len(steps) && len(l) < 5; i++ {
			check(append(slices.Clone(l), steps[i]))
		}
	}
	check(nil)
	if want := countShortMacros(0, 5); macros != want {
		t.Errorf("%d macros were met, want %d", macros, want)
	}
}

// countShortMacros counts the macros of at most n steps of three presses, of which some are down: a
// press that is up may be tapped or go down, and one that is down may go up.
func countShortMacros(down int, n int) int {
	count := 0
	if down == 0 {
		count = 1
	}
	if n == 0 {
		return count
	}
	count += (3 - down) * countShortMacros(down, n-1)
	if down < 3 {
		count += (3 - down) * countShortMacros(down+1, n-1)
	}
	if down > 0 {
		count += down * countShortMacros(down-1, n-1)
	}
	return count
}

// randomMacro returns a valid macro: what is down goes up before there is no step left for it.
func randomMacro(source *rand.Rand, presses []impl.Step) []impl.Step {
	var l, open []impl.Step
	for n := source.Intn(9); len(l)+len(open) < n; {
		s := presses[source.Intn(len(presses))]
		s.Kind = source.Intn(3)
		switch {
		case s.Kind == impl.MacroUp && len(open) > 0:
			at := source.Intn(len(open))
			l = append(l, open[at])
			open = slices.Delete(open, at, at+1)
		case s.Kind == impl.MacroDown && !isDownAfter(l, s) && len(l)+len(open)+2 <= n:
			l = append(l, s)
			open = append(open, impl.Step{Kind: impl.MacroUp, Code: s.Code, Mods: s.Mods})
		case s.Kind != impl.MacroUp && !isDownAfter(l, s):
			s.Kind = impl.MacroTap
			l = append(l, s)
		}
	}
	source.Shuffle(len(open), func(i int, k int) { open[i], open[k] = open[k], open[i] })
	return append(l, open...)
}

func TestPromise6OfMacros(t *testing.T) {
	source := rand.New(rand.NewSource(8))
	all := everyTap()
	few := stepsOf(t, "t=a t=S- t=S-a t=CS- t=b")
	lengths := map[int]int{}
	for i, held := range randomHeld(3000) {
		presses := all
		if i%3 > 0 {
			presses = few
		}
		l := randomMacro(source, presses)
		lengths[len(l)]++
		if !checkMacro(t, held, l) {
			t.Fatalf("%v is no macro", l)
		}
		for _, r := range impl.MacroReports(held, l) {
			checkReport(t, r)
			// A macro never lets go what is held.
			if still := impl.ReportOf(held); r.Mods&still.Mods != still.Mods || slices.ContainsFunc(still.Keys, func(code int) bool { return !slices.Contains(r.Keys, code) }) {
				t.Fatalf("MacroReports(%v, %v) has %v", held, l, r)
			}
		}
		checkChangedMacros(t, source, held, l)
	}
	for n := range 9 {
		if lengths[n] < 100 {
			t.Errorf("%d macros of %d steps were met", lengths[n], n)
		}
	}
}

// checkChangedMacros changes one step: it is left out, doubled, swapped with the next one, or gets another number.
func checkChangedMacros(t *testing.T, source *rand.Rand, held []impl.Held, l []impl.Step) {
	t.Helper()
	for i, s := range l {
		checkMacro(t, held, slices.Delete(slices.Clone(l), i, i+1))
		checkMacro(t, held, slices.Insert(slices.Clone(l), i, s))
		changed := slices.Clone(l)
		changed[i], changed[len(l)-1] = changed[len(l)-1], changed[i]
		checkMacro(t, held, changed)
		for _, other := range []impl.Step{
			{Kind: (s.Kind + 1) % 3, Code: s.Code, Mods: s.Mods},
			{Kind: (s.Kind + 2) % 3, Code: s.Code, Mods: s.Mods},
			{Kind: s.Kind, Code: source.Intn(58), Mods: s.Mods},
			{Kind: s.Kind, Code: s.Code, Mods: source.Intn(17)},
		} {
			changed = slices.Clone(l)
			changed[i] = other
			checkMacro(t, held, changed)
		}
	}
}

func TestFormatMacro(t *testing.T) {
	cases := []struct {
		want string
		l    []impl.Step
	}{
		{"", nil},
		{"", []impl.Step{}},
		{"t=a", []impl.Step{{Code: 1}}},
		{"t=S-", []impl.Step{{Mods: 2}}},
		{"t=CSAG-f9", []impl.Step{{Code: 56, Mods: 15}}},
		{"d=S- t=b u=S-", []impl.Step{{Kind: impl.MacroDown, Mods: 2}, {Kind: impl.MacroTap, Code: 2}, {Kind: impl.MacroUp, Mods: 2}}},
		{"d=equal d=minus u=equal u=minus", []impl.Step{{Kind: 1, Code: 43}, {Kind: 1, Code: 42}, {Kind: 2, Code: 43}, {Kind: 2, Code: 42}}},
		{"t=t t=d t=u t=0 t=C-space", []impl.Step{{Code: 20}, {Code: 4}, {Code: 21}, {Code: 36}, {Code: 41, Mods: 1}}},
	}
	for _, c := range cases {
		if got := impl.FormatMacro(c.l); got != c.want {
			t.Errorf("FormatMacro(%v) = %q, want %q", c.l, got, c.want)
		}
		if got, ok := impl.ParseMacro(c.want); !ok || !slices.Equal(got, c.l) {
			t.Errorf("ParseMacro(%q) = %v, %v, want %v, true", c.want, got, ok, c.l)
		}
	}
}

// checkMacroText checks that a text is read if and only if it is the format of a macro.
func checkMacroText(t *testing.T, actions map[string]impl.Action, s string) bool {
	t.Helper()
	want, ok := stepsOfText(actions, s)
	if !ok || !isMacroByTheText(want) {
		checkMacroRejected(t, s)
		return false
	}
	if got, ok := impl.ParseMacro(s); !ok || !slices.Equal(got, want) {
		t.Fatalf("ParseMacro(%q) = %v, %v, want %v, true", s, got, ok, want)
	}
	if got := impl.FormatMacro(want); got != s {
		t.Fatalf("FormatMacro(%v) = %q, want %q", want, got, s)
	}
	return true
}

func TestParseMacroReadsNothingElse(t *testing.T) {
	actions := actionsOfTexts()
	// Every text of up to six of these parts is read as its macro or not at all.
	for _, parts := range [][]string{{"t", "d", "u", "=", "a", "S-", " ", "S/"}, {"t=", "d=a", "u=a", " ", "t=S-", "mo:1", "d=", "x"}} {
		read := map[string]bool{}
		var check func(s string, n int)
		check = func(s string, n int) {
			if checkMacroText(t, actions, s) {
				read[s] = true
			}
			for i := 0; i < len(parts) && n < 6; i++ {
				check(s+parts[i], n+1)
			}
		}
		check("", 0)
		for _, s := range []string{"", "t=S-"} {
			if !read[s] {
				t.Errorf("%q was not read", s)
			}
		}
		if len(read) < 10 {
			t.Errorf("%d formats were met", len(read))
		}
	}
}

func TestParseMacroOfChangedFormats(t *testing.T) {
	actions := actionsOfTexts()
	for _, s := range macroTexts {
		if !checkMacroText(t, actions, s) {
			t.Errorf("%q is no format", s)
		}
		for i := range len(s) + 1 {
			checkMacroText(t, actions, s[:i])
			checkMacroText(t, actions, s[i:])
			for _, c := range []string{"", " ", "  ", "=", "==", "-", "/", ":", ",", "|", "a", "b", "t", "d", "u", "T", "S", "S-", "C", "1", "0", "t=", "t=a ", " t=a", "u=a ", " u=a", "\n", "\x00", "\xff", "td"} {
				checkMacroText(t, actions, s[:i]+c+s[i:])
				if i < len(s) {
					checkMacroText(t, actions, s[:i]+c+s[i+1:])
				}
			}
		}
	}
}

func TestParseMacroReadsEachPress(t *testing.T) {
	for s, a := range actionsOfTexts() {
		// Of all actions, only an ActKey is a press.
		for kind, letter := range []string{"t=", "d=", "u="} {
			text, want := letter+s, []impl.Step{{Kind: kind, Code: a.Code, Mods: a.Mods}}
			switch kind {
			case impl.MacroDown:
				text, want = text+" u="+s, append(want, impl.Step{Kind: impl.MacroUp, Code: a.Code, Mods: a.Mods})
			case impl.MacroUp:
				text, want = "d="+s+" "+text, slices.Insert(want, 0, impl.Step{Kind: impl.MacroDown, Code: a.Code, Mods: a.Mods})
			}
			if a.Kind != impl.ActKey {
				checkMacroRejected(t, text)
			} else if got, ok := impl.ParseMacro(text); !ok || !slices.Equal(got, want) {
				t.Fatalf("ParseMacro(%q) = %v, %v, want %v, true", text, got, ok, want)
			}
		}
	}
}

func TestParseMacroRejects(t *testing.T) {
	for _, s := range append([]string{
		" ", "  ", "=", "==", "\n", "\x00", "\xff", "t", "d", "u", "a", "S-", "t=", "d=", "u=", "=a", " t=a", "t=a ", " t=a ", "t= a", "t =a", "t=a  t=b", "t=a,t=b", "t=a\tt=b", "t=a\nt=b", "t=at=b", "t=a;t=b", "t=a|t=b", "t=a | t=b",
		"t-a", "t:a", "t+a", "ta", "t==a", "t=a=", "t=a=b", "t=t=a", "=t=a", "T=a", "D=a U=a", "x=a", "0=a", "1=a 2=a", "tap=a", "td=a", "tdu=a", "du=a", "tt=a", "\x00=a", "\xff=a", "\u0442=a", "t\u00a0=a", "t\uff1da",
		"t=aa", "t=A", "t=S", "t=-", "t=-a", "t=S-S", "t=S-S-", "t=S-S-a", "t=SC-a", "t=SS-a", "t=s-a", "t=S-A", "t=S--a", "t=S-0a", "t=0-a", "t=f0", "t=f10", "t=10", "t==", "t=\u0430",
		"t=none", "t=pass", "t=caps", "t=mo:1", "t=tg:1", "t=to:0", "t=macro:0", "t=once:S", "t=S/a", "t=1/a", "t=CSAG/f9", "d=mo:1 u=mo:1", "d=S/a u=S/a", "d=once:S u=once:S", "d=none u=none", "d= u=", "d=S-a u=S/a",
		"t=a u", "t=a t", "t=a t=", "t=a =", "t=a b", "t=a a", "d=a u=a ", " d=a u=a", "d=a  u=a", "t=b x=a", "x=a t=b", "d=a t= u=a",
		strings.Repeat("t", 5000) + "=a", "t=" + strings.Repeat("a", 5000), strings.Repeat("t=a ", 5000) + "t=a", strings.Repeat("d=a u=a ", 5000) + "d=a u=a", strings.Repeat(" ", 5000), strings.Repeat("=", 5000), strings.Repeat("t=", 5000),
	}, badMacroTexts...) {
		checkMacroRejected(t, s)
	}
}

func TestMacroResultsAreNewMemory(t *testing.T) {
	for _, keys := range []string{"", "c b", "S- a"} {
		for _, text := range macroTexts {
			checkOwnReports(t, heldOf(t, keys), stepsOf(t, text))
		}
	}
	for _, s := range macroTexts {
		first, _ := impl.ParseMacro(s)
		second, _ := impl.ParseMacro(s)
		overwriteSteps(first)
		third, _ := impl.ParseMacro(s)
		if !slices.Equal(second, stepsOf(t, s)) || !slices.Equal(third, second) {
			t.Errorf("ParseMacro(%q) gives out the same memory again: %v, %v", s, second, third)
		}
	}
}

// checkOwnReports checks that a list of keys that is written to, also behind its end, changes no other one.
func checkOwnReports(t *testing.T, held []impl.Held, steps []impl.Step) {
	t.Helper()
	want := macroByTheText(held, steps)
	again := impl.MacroReports(held, steps)
	for _, r := range again {
		_ = append(r.Keys, 50, 51, 52)
	}
	if !sameReports(again, want) {
		t.Fatalf("the reports have become %v", again)
	}
	for i := range want {
		reports := impl.MacroReports(held, steps)
		overwrite(reports[i].Keys)
		if !sameReports(reports[:i], want[:i]) || !sameReports(reports[i+1:], want[i+1:]) || !sameReports(again, want) {
			t.Fatalf("with report %d of %v changed, the others are %v and %v", i, steps, reports, again)
		}
	}
	clear(again[:cap(again)])
	if got := impl.MacroReports(held, steps); !sameReports(got, want) {
		t.Fatalf("MacroReports gives out the same memory again: %v", got)
	}
}

func overwriteSteps(l []impl.Step) {
	l = l[:cap(l)]
	for i := range l {
		l[i] = impl.Step{Kind: -7, Code: -7, Mods: -7}
	}
}

func TestMacrosLeaveTheirArguments(t *testing.T) {
	held := heldOf(t, "S- b a C-a mo:2 once:G")
	heldBefore := slices.Clone(held)
	for _, text := range append(slices.Clone(macroTexts), badMacroTexts...) {
		// The steps behind the part that is given are its unused capacity.
		steps := append(stepsOf(t, text), stepsOf(t, "d=z t=y u=z")...)
		before := slices.Clone(steps)
		for from := range steps {
			for to := from; to <= len(steps); to++ {
				part := steps[from:to]
				impl.IsMacro(part)
				impl.FormatMacro(part)
				for _, r := range impl.MacroReports(held[:(from+to)%len(held)], part) {
					overwrite(r.Keys)
				}
			}
		}
		if !slices.Equal(steps, before) || !slices.Equal(held, heldBefore) {
			t.Fatalf("the arguments have become %v and %v", held, steps)
		}
	}
}
