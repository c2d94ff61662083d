package tests

import (
	"fmt"
	"math/rand"
	"reflect"
	"slices"
	"strings"
	"testing"

	"loop.example/g03414/impl"
)

// engineOf returns the engine with a keymap and macros of these formats, in which nothing is held, fixed or waiting.
func engineOf(t *testing.T, keymap string, macros ...string) impl.Engine {
	t.Helper()
	e := impl.Engine{Map: mapOf(t, strings.Split(keymap, "|")...)}
	for _, text := range macros {
		e.Macros = append(e.Macros, stepsOf(t, text))
	}
	got, ok := impl.NewEngine(e.Map, e.Macros)
	if !ok || !sameEngine(got, e) {
		t.Fatalf("NewEngine(%v, %v) = %v, %v", e.Map, e.Macros, got, ok)
	}
	return got
}

func sameEngine(a impl.Engine, b impl.Engine) bool {
	return sameKeymap(a.Map, b.Map) && slices.EqualFunc(a.Macros, b.Macros, slices.Equal[[]impl.Step]) &&
		a.Fixed == b.Fixed && slices.Equal(a.Held, b.Held) && a.Once == b.Once && a.Caps == b.Caps
}

func isZeroEngine(e impl.Engine) bool { return sameEngine(e, impl.Engine{}) }

func copyOfEngine(e impl.Engine) impl.Engine {
	c := e
	c.Map = copyOf(e.Map)
	c.Macros = nil
	for _, steps := range e.Macros {
		c.Macros = append(c.Macros, slices.Clone(steps))
	}
	c.Held = slices.Clone(e.Held)
	return c
}

// stateOf tells what an engine remembers: the mask of fixed layers, what waits, and what is held.
func stateOf(e impl.Engine) string {
	var parts []string
	if e.Fixed != 0 {
		parts = append(parts, fmt.Sprint("fixed:", e.Fixed))
	}
	if e.Once != 0 {
		parts = append(parts, "waits:"+modsInOrder[e.Once-1])
	}
	if e.Caps {
		parts = append(parts, "word")
	}
	for _, h := range e.Held {
		parts = append(parts, fmt.Sprint(h.Key, "=", textsOfAll[h.Action]))
	}
	return strings.Join(parts, " ")
}

var textsOfAll = textsOfActions()

// textOfReports has the formats, separated by spaces.
func textOfReports(l []impl.Report) string {
	var texts []string
	for _, r := range l {
		texts = append(texts, textOf(r))
	}
	return strings.Join(texts, " ")
}

// isEngineByTheText reads the fields of an engine by the text of the document.
func isEngineByTheText(e impl.Engine) bool {
	for _, layer := range e.Map.Layers {
		for _, a := range layer {
			if textsOfAll[a] == "" {
				return false
			}
		}
	}
	if !isKeymap(e.Map) || len(e.Macros) > 4 {
		return false
	}
	for _, steps := range e.Macros {
		if !isMacroByTheText(steps) {
			return false
		}
	}
	keys := map[int]bool{}
	for _, h := range e.Held {
		if keys[h.Key] || h.Key < 0 || h.Key >= e.Map.Keys || textsOfAll[h.Action] == "" || layersNeeded(h.Action) > len(e.Map.Layers) {
			return false
		}
		keys[h.Key] = true
		if h.Action.Kind == impl.ActPass || h.Action.Kind == impl.ActModTap || h.Action.Kind == impl.ActLayerTap {
			return false
		}
	}
	masks := [][]int{1: {0}, 2: {0, 2}, 3: {0, 2, 4, 6}, 4: {0, 2, 4, 6, 8, 10, 12, 14}}
	return slices.Contains(masks[len(e.Map.Layers)], e.Fixed) && e.Once >= 0 && e.Once <= 15
}

// settledByTheText returns the action of a key by the highest layer that is on and does not pass.
func settledByTheText(e impl.Engine, key int, hold bool) impl.Action {
	on := layersByTheText(e.Fixed, e.Held, true)
	var a impl.Action
	for layer, actions := range e.Map.Layers {
		if isOn(on, layer) && actions[key] != passes {
			a = actions[key]
		}
	}
	switch {
	case a.Kind == impl.ActModTap && hold:
		return impl.Action{Kind: impl.ActKey, Mods: a.Mods}
	case a.Kind == impl.ActLayerTap && hold:
		return impl.Action{Kind: impl.ActMomentary, N: a.N}
	case a.Kind == impl.ActModTap || a.Kind == impl.ActLayerTap:
		return impl.Action{Kind: impl.ActKey, Code: a.Code}
	}
	return a
}

// modsWhere sums up the modifiers for which the function reports true.
func modsWhere(has func(mod int) bool) int {
	mods := 0
	for _, mod := range []int{1, 2, 4, 8} {
		if has(mod) {
			mods += mod
		}
	}
	return mods
}

func isLetter(code int) bool { return code >= 1 && code <= 26 }

// wordNames are the names of the codes that belong to words.
const wordNames = "a b c d e f g h i j k l m n o p q r s t u v w x y z 1 2 3 4 5 6 7 8 9 0 back minus"

func isWordByTheText(code int) bool {
	return code >= 1 && code <= 56 && slices.Contains(strings.Fields(wordNames), namesInOrder[code-1])
}

// codeByTheText returns the action of a code, and what waits of the modifiers and the word from then on.
func codeByTheText(a impl.Action, once int, caps bool) (impl.Action, bool) {
	a.Mods = modsWhere(func(mod int) bool { return a.Mods/mod%2 == 1 || once/mod%2 == 1 })
	caps = caps && isWordByTheText(a.Code)
	if caps && isLetter(a.Code) && (a.Mods == 0 || a.Mods == 2) {
		a.Mods = 2
	}
	return a, caps
}

func onceByTheText(once int, mods int) int {
	missing := modsWhere(func(mod int) bool { return mods/mod%2 == 1 && once/mod%2 == 0 })
	if missing == 0 {
		return once - mods
	}
	return once + missing
}

// fixedByTheText goes through the layers that may be fixed.
func fixedByTheText(fixed int, a impl.Action) int {
	mask := 0
	for layer := 1; layer < 4; layer++ {
		on := isOn(fixed, layer)
		if a.Kind == impl.ActToggle && a.N == layer {
			on = !on
		}
		if a.Kind == impl.ActTo {
			on = a.N == layer
		}
		if on {
			mask += 1 << layer
		}
	}
	return mask
}

// changesByTheText passes over each report that the host has already.
func changesByTheText(last impl.Report, l []impl.Report) []impl.Report {
	var changes []impl.Report
	for _, r := range l {
		if !sameAs(r, last) {
			changes = append(changes, r)
		}
		last = r
	}
	return changes
}

func indexOfKey(l []impl.Held, key int) int {
	return slices.IndexFunc(l, func(h impl.Held) bool { return h.Key == key })
}

func pressByTheText(e impl.Engine, key int, hold bool) (impl.Engine, []impl.Report, bool) {
	if !isEngineByTheText(e) || key < 0 || key >= e.Map.Keys || indexOfKey(e.Held, key) >= 0 {
		return impl.Engine{}, nil, false
	}
	next := copyOfEngine(e)
	a := settledByTheText(e, key, hold)
	switch {
	case a.Kind == impl.ActKey && a.Code > 0:
		a, next.Caps = codeByTheText(a, e.Once, e.Caps)
		next.Once = 0
	case a.Kind == impl.ActOnce:
		next.Once = onceByTheText(e.Once, a.Mods)
	case a.Kind == impl.ActCaps:
		next.Caps = !e.Caps
	}
	next.Fixed = fixedByTheText(e.Fixed, a)
	next.Held = append(next.Held, impl.Held{Key: key, Action: a})
	var l []impl.Report
	if a.Kind == impl.ActMacro && a.N < len(e.Macros) {
		l = macroByTheText(next.Held, e.Macros[a.N])
	}
	return next, changesByTheText(reportByTheText(e.Held), append(l, reportByTheText(next.Held))), true
}

func releaseByTheText(e impl.Engine, key int) (impl.Engine, []impl.Report, bool) {
	at := indexOfKey(e.Held, key)
	if !isEngineByTheText(e) || at < 0 {
		return impl.Engine{}, nil, false
	}
	next := copyOfEngine(e)
	next.Held = append(next.Held[:at], next.Held[at+1:]...)
	return next, changesByTheText(reportByTheText(e.Held), []impl.Report{reportByTheText(next.Held)}), true
}

func tapsByTheText(e impl.Engine, keys []int) (impl.Engine, []impl.Report, bool) {
	if !isEngineByTheText(e) {
		return impl.Engine{}, nil, false
	}
	var all []impl.Report
	for _, key := range keys {
		pressed, l, ok := pressByTheText(e, key, false)
		if !ok {
			return impl.Engine{}, nil, false
		}
		released, more, _ := releaseByTheText(pressed, key)
		e, all = released, slices.Concat(all, l, more)
	}
	return e, all, true
}

// checkMove compares what a function returned with what the document requires.
func checkMove(t *testing.T, e impl.Engine, move string, got impl.Engine, l []impl.Report, ok bool, want impl.Engine, reports []impl.Report, fine bool) {
	t.Helper()
	if ok != fine || !sameEngine(got, want) || !sameReports(l, reports) {
		t.Fatalf("%s of %v\n= %v, %v, %v\nwant %v, %v, %v", move, e, got, l, ok, want, reports, fine)
	}
	if ok && !impl.IsEngine(got) {
		t.Fatalf("after %s of %v, %v is no engine", move, e, got)
	}
}

func checkPress(t *testing.T, e impl.Engine, key int, hold bool) (impl.Engine, []impl.Report, bool) {
	t.Helper()
	got, l, ok := impl.Press(e, key, hold)
	want, reports, fine := pressByTheText(e, key, hold)
	checkMove(t, e, fmt.Sprintf("Press %d %v", key, hold), got, l, ok, want, reports, fine)
	return got, l, ok
}

func checkRelease(t *testing.T, e impl.Engine, key int) (impl.Engine, []impl.Report, bool) {
	t.Helper()
	got, l, ok := impl.Release(e, key)
	want, reports, fine := releaseByTheText(e, key)
	checkMove(t, e, fmt.Sprintf("Release %d", key), got, l, ok, want, reports, fine)
	return got, l, ok
}

func checkTaps(t *testing.T, e impl.Engine, keys []int) (impl.Engine, []impl.Report, bool) {
	t.Helper()
	got, l, ok := impl.TapKeys(e, keys)
	want, reports, fine := tapsByTheText(e, keys)
	checkMove(t, e, fmt.Sprintf("TapKeys %v", keys), got, l, ok, want, reports, fine)
	return got, l, ok
}

// play performs moves: 2+ presses key 2 as a tap, 2h as a hold, and 2- lets it go.
func play(t *testing.T, e impl.Engine, moves string) (impl.Engine, []impl.Report) {
	t.Helper()
	var all []impl.Report
	for _, move := range strings.Fields(moves) {
		var key int
		var kind rune
		if n, err := fmt.Sscanf(move, "%d%c", &key, &kind); n != 2 || err != nil {
			t.Fatalf("%q is no move", move)
		}
		var l []impl.Report
		ok := false
		if kind == '-' {
			e, l, ok = checkRelease(t, e, key)
		} else {
			e, l, ok = checkPress(t, e, key, kind == 'h')
		}
		if !ok {
			t.Fatalf("of %q, %s fails", moves, move)
		}
		all = append(all, l...)
	}
	return e, all
}

// playCase has a keymap, moves, and the reports and the state that follow from the text of the document.
type playCase struct{ keymap, moves, reports, state string }

func checkCases(t *testing.T, cases []playCase, macros ...string) {
	t.Helper()
	for _, c := range cases {
		e, l := play(t, engineOf(t, c.keymap, macros...), c.moves)
		if got := textOfReports(l); got != c.reports {
			t.Errorf("%q with %q sends %q, want %q", c.keymap, c.moves, got, c.reports)
		}
		if got := stateOf(e); got != c.state {
			t.Errorf("%q with %q has become %q, want %q", c.keymap, c.moves, got, c.state)
		}
	}
}

func TestPressAndReleaseCodes(t *testing.T) {
	checkCases(t, []playCase{
		{"a", "", "", ""},
		{"a", "0+", ":a", "0=a"},
		{"a", "0h", ":a", "0=a"},
		{"a", "0+ 0-", ":a :", ""},
		{"a", "0+ 0- 0+", ":a : :a", "0=a"},
		{"a S-", "1+ 0+ 1- 0-", "S: S:a :a :", ""},
		{"a S-", "0+ 1+ 0- 1-", ":a S:a S: :", ""},
		{"a b c", "2+ 0+ 1+", ":c :a,c :a,b,c", "2=c 0=a 1=b"},
		{"a b c", "2+ 0+ 1+ 0-", ":c :a,c :a,b,c :b,c", "2=c 1=b"},
		// no report that the host has already
		{"none a", "0+ 0-", "", ""},
		{"none a", "0+ 1+ 0-", ":a", "1=a"},
		{"a a", "0+ 1+ 0-", ":a", "1=a"},
		{"a a", "0+ 1+ 0- 1-", ":a :", ""},
		{"S-a S- a", "0+ 1+ 2+ 0- 1- 2-", "S:a :a :", ""},
		{"S-a C-a", "0+ 1+ 0- 1-", "S:a CS:a C:a :", ""},
	})
}

func TestPressSettlesTapAndHold(t *testing.T) {
	checkCases(t, []playCase{
		{"S/a b", "0h 1+ 1- 0-", "S: S:b S: :", ""},
		{"S/a b", "0+ 1+ 1- 0-", ":a :a,b :a :", ""},
		{"S/a b", "0+ 1h", ":a :a,b", "0=a 1=b"},
		{"S/a b", "0h 1h", "S: S:b", "0=S- 1=b"},
		{"CSAG/f9", "0h", "CSAG:", "0=CSAG-"},
		{"CSAG/f9", "0+", ":f9", "0=f9"},
		{"1/a b | c d", "0h 1+ 1- 0-", ":d :", ""},
		{"1/a b | c d", "0+ 1+ 1- 0-", ":a :a,b :a :", ""},
		{"1/a b | c d", "0h", "", "0=mo:1"},
		{"mo:1 b | c S/d", "0+ 1h", "S:", "0=mo:1 1=S-"},
		{"mo:1 b | c S/d", "0h 1+", ":d", "0=mo:1 1=d"},
		{"2/a 1/b c | pass pass d | pass pass e", "1h 0h 2+", ":e", "1=mo:1 0=mo:2 2=e"},
		{"2/a 1/b c | pass pass d | pass pass pass", "1h 0h 2+", ":d", "1=mo:1 0=mo:2 2=d"},
	})
}

func TestLayerKeyGoesUpAheadOfTheKeyItChanged(t *testing.T) {
	checkCases(t, []playCase{
		{"a mo:1 | b pass", "1+ 0+ 1-", ":b", "0=b"},
		{"a mo:1 | b pass", "1+ 0+ 1- 0-", ":b :", ""},
		{"a mo:1 | b pass", "1+ 0+ 1- 0- 0+ 0-", ":b : :a :", ""},
		{"a mo:1 | b pass", "1+ 0+ 1- 1+ 0- 0+", ":b : :b", "1=mo:1 0=b"},
		{"a 1/z | b pass", "1h 0+ 1- 0- 0+", ":b : :a", "0=a"},
		{"a 1/z | b c", "1h 0+ 1- 1+", ":b :b,z", "0=b 1=z"},
		// the key goes down ahead of the layer key
		{"a mo:1 | b pass", "0+ 1+ 0- 0+", ":a : :b", "1=mo:1 0=b"},
		{"a mo:1 | b pass", "0+ 1+ 1- 0-", ":a :", ""},
		{"a tg:1 | b pass", "0+ 1+ 1- 0- 0+", ":a : :b", "fixed:2 0=b"},
		{"a to:1 | b to:0", "1+ 1- 0+ 1+ 1- 0- 0+", ":b : :a", "0=a"},
		// what is changed is a layer key, a modifier or a macro
		{"mo:2 mo:1 a | tg:2 pass b | pass pass c", "1+ 0+ 1- 2+ 0- 2-", ":c :", "fixed:4"},
		{"mo:1 a b | pass mo:2 c | pass pass d", "0+ 1+ 0- 2+", ":d", "1=mo:2 2=d"},
		{"mo:1 a b | pass mo:2 c | pass pass pass", "0+ 1+ 0- 2+", ":b", "1=mo:2 2=b"},
		{"mo:1 a b | pass mo:2 c | pass pass pass", "0+ 1+ 2+ 0-", ":c", "1=mo:2 2=c"},
		{"mo:1 a b | pass S- pass", "0+ 1+ 0- 2+ 1- 2-", "S: S:b :b :", ""},
		{"mo:1 a b | pass once:S pass", "0+ 1+ 0- 2+ 1- 2-", "S: S:b :", ""},
		{"mo:1 a b | pass macro:0 pass", "0+ 1+ 0- 2+ 1- 2-", ":z : :b :", ""},
		{"mo:1 a b | pass S/c pass", "0+ 1h 0- 2+ 1- 2-", "S: S:b :b :", ""},
	}, "t=z")
}

func TestPressTurnsLayers(t *testing.T) {
	checkCases(t, []playCase{
		{"tg:1 a | pass b", "0+", "", "fixed:2 0=tg:1"},
		{"tg:1 a | pass b", "0+ 0-", "", "fixed:2"},
		{"tg:1 a | pass b", "0+ 1+ 0- 1-", ":b :", "fixed:2"},
		{"tg:1 a | pass b", "0+ 0- 0+ 0- 1+", ":a", "1=a"},
		{"tg:1 tg:2 a | pass pass b | pass pass c", "0+ 1+ 2+", ":c", "fixed:6 0=tg:1 1=tg:2 2=c"},
		{"tg:1 tg:2 a | pass pass b | pass pass c", "1+ 1- 0+ 0- 1+ 1- 2+", ":b", "fixed:2 2=b"},
		{"tg:3 a | pass b | pass c | pass d", "0+ 1+", ":d", "fixed:8 0=tg:3 1=d"},
		{"tg:1 a | tg:2 b | tg:3 c | to:0 d", "0+ 0- 0+ 0- 0+ 0- 1+", ":d", "fixed:14 1=d"},
		{"tg:1 a | tg:2 b | tg:3 c | to:0 d", "0+ 0- 0+ 0- 0+ 0- 0+ 0- 1+", ":a", "1=a"},
		{"to:1 a | to:0 b", "0+ 0- 1+ 1- 0+ 0- 1+ 1-", ":b : :a :", ""},
		{"to:0 a | pass b", "0+ 1+", ":a", "0=to:0 1=a"},
		{"to:1 a | pass b", "0+ 0- 0+ 0- 1+", ":b", "fixed:2 1=b"},
		{"tg:1 to:2 a | pass pass b | pass pass pass", "0+ 0- 1+ 1- 2+", ":a", "fixed:4 2=a"},
		{"tg:1 to:3 a tg:2 | pass pass b pass | pass pass pass pass | pass pass d pass", "0+ 3+ 1+ 2+", ":d", "fixed:8 0=tg:1 3=tg:2 1=to:3 2=d"},
		{"tg:1 to:0 a tg:2 | pass pass b pass | pass pass pass pass", "0+ 3+ 1+ 2+", ":a", "0=tg:1 3=tg:2 1=to:0 2=a"},
		// a layer that is held and fixed stays on while it is either
		{"mo:1 tg:1 a | pass pass b", "0+ 1+ 1- 0- 2+", ":b", "fixed:2 2=b"},
		{"mo:1 tg:1 a | pass pass b", "1+ 1- 0+ 1+ 1- 2+", ":b", "0=mo:1 2=b"},
		{"mo:1 tg:1 a | pass pass b", "1+ 1- 0+ 1+ 1- 2+ 2- 0- 2+", ":b : :a", "2=a"},
		{"mo:1 to:0 a | pass pass b", "0+ 1+ 2+", ":b", "0=mo:1 1=to:0 2=b"},
		{"mo:1 mo:1 a | pass pass b", "0+ 1+ 0- 2+", ":b", "1=mo:1 2=b"},
	})
}

func TestModifiersThatWait(t *testing.T) {
	checkCases(t, []playCase{
		{"once:S a b", "0+", "S:", "waits:S 0=once:S"},
		{"once:S a b", "0+ 0-", "S: :", "waits:S"},
		{"once:S a b", "0+ 0- 1+", "S: : S:a", "1=S-a"},
		{"once:S a b", "0+ 0- 1+ 1- 2+ 2-", "S: : S:a : :b :", ""},
		{"once:S a b", "0+ 0- 1+ 2+ 1- 2-", "S: : S:a S:a,b :b :", ""},
		{"once:S a b", "0+ 1+ 0- 1-", "S: S:a :", ""},
		{"once:S a b", "0+ 1+ 1- 2+ 0- 2-", "S: S:a S: S:b :b :", ""},
		{"once:S once:C a", "0+ 0- 1+ 1- 2+ 2-", "S: : C: : CS:a :", ""},
		{"once:S once:C a", "0+ 1+ 0- 1- 2+", "S: CS: C: : CS:a", "2=CS-a"},
		// all of them again take them back
		{"once:S a", "0+ 0- 0+ 0- 1+", "S: : S: : :a", "1=a"},
		{"once:CS once:S a", "0+ 0- 1+ 1- 2+", "CS: : S: : C:a", "2=C-a"},
		{"once:CS once:S a", "1+ 1- 0+ 0- 2+", "S: : CS: : CS:a", "2=CS-a"},
		{"once:CS once:SA a", "0+ 0- 1+ 1- 2+", "CS: : SA: : CSA:a", "2=CSA-a"},
		{"once:CSAG once:SA a", "0+ 0- 1+ 1- 2+", "CSAG: : SA: : CG:a", "2=CG-a"},
		{"once:C once:S once:CS a", "0+ 0- 1+ 1- 2+ 2- 3+", "C: : S: : CS: : :a", "3=a"},
		// they come to the modifiers that the code has
		{"once:S C-a S-b", "0+ 0- 1+", "S: : CS:a", "1=CS-a"},
		{"once:S C-a S-b", "0+ 0- 2+ 2- 1+", "S: : S:b : C:a", "1=C-a"},
		{"once:CS S-b", "0+ 0- 1+", "CS: : CS:b", "1=CS-b"},
		{"once:S S/a b", "0+ 0- 1+ 1- 2+", "S: : S:a : :b", "2=b"},
		{"once:S 1/a b | pass pass c", "0+ 0- 1+ 1- 2+", "S: : S:a : :b", "2=b"},
		{"once:S space f9", "0+ 0- 1+ 1- 2+", "S: : S:space : :f9", "2=f9"},
		// they wait while no code comes
		{"once:S C- a", "0+ 0- 1+ 2+ 1- 2-", "S: : C: CS:a S:a :", ""},
		{"once:S C/z a", "0+ 0- 1h 1- 2+", "S: : C: : S:a", "2=S-a"},
		{"once:S none a", "0+ 0- 1+ 1- 2+", "S: : S:a", "2=S-a"},
		{"once:S mo:1 a | pass pass b", "0+ 0- 1+ 2+ 1- 2-", "S: : S:b :", ""},
		{"once:S 1/z a | pass pass b", "0+ 0- 1h 2+", "S: : S:b", "1=mo:1 2=S-b"},
		{"once:S tg:1 a | pass pass b", "0+ 0- 1+ 1- 2+", "S: : S:b", "fixed:2 2=S-b"},
		{"once:S to:1 a | pass pass b", "0+ 0- 1+ 1- 2+", "S: : S:b", "fixed:2 2=S-b"},
		{"once:S macro:0 a", "0+ 0- 1+ 1- 2+", "S: : :z : S:a", "2=S-a"},
		{"once:S caps f1", "0+ 0- 1+ 1- 2+", "S: : S:f1", "2=S-f1"},
		{"once:S S- a", "0+ 0- 1+ 1- 2+", "S: : S: : S:a", "2=S-a"},
	}, "t=z")
}

func TestCapitalsOfAWord(t *testing.T) {
	checkCases(t, []playCase{
		{"caps a", "0+", "", "word 0=caps"},
		{"caps a", "0+ 0- 1+", "S:a", "word 1=S-a"},
		{"caps a", "0+ 1+ 0- 1-", "S:a :", "word"},
		{"caps a", "0+ 0- 0+ 0- 1+", ":a", "1=a"},
		{"caps a space", "0+ 0- 1+ 1- 2+ 2- 1+", "S:a : :space : :a", "1=a"},
		{"caps a z b", "0+ 0- 1+ 2+ 3+", "S:a S:a,z S:a,b,z", "word 1=S-a 2=S-z 3=S-b"},
		// digits, back and minus belong to the word, and are no letters
		{"caps a 1 0", "0+ 0- 2+ 2- 3+ 3- 1+", ":1 : :0 : S:a", "word 1=S-a"},
		{"caps a back minus", "0+ 0- 2+ 2- 3+ 3- 1+", ":back : :minus : S:a", "word 1=S-a"},
		{"caps a S-1 C-minus", "0+ 0- 2+ 2- 3+ 3- 1+", "S:1 : C:minus : S:a", "word 1=S-a"},
		{"caps a enter", "0+ 0- 2+ 2- 1+", ":enter : :a", "1=a"},
		{"caps a esc tab", "0+ 0- 2+", ":esc", "2=esc"},
		{"caps a esc tab", "0+ 0- 3+", ":tab", "3=tab"},
		{"caps a equal", "0+ 0- 2+ 1+", ":equal :a,equal", "2=equal 1=a"},
		{"caps a S-space", "0+ 0- 2+ 2- 1+", "S:space : :a", "1=a"},
		// other modifiers than shift leave the letter as it is, and the word goes on
		{"caps a S-b", "0+ 0- 2+ 2- 1+", "S:b : S:a", "word 1=S-a"},
		{"caps a C-b", "0+ 0- 2+ 2- 1+", "C:b : S:a", "word 1=S-a"},
		{"caps a CS-b", "0+ 0- 2+ 2- 1+", "CS:b : S:a", "word 1=S-a"},
		{"caps a A-b G-c", "0+ 0- 2+ 2- 3+", "A:b : G:c", "word 3=G-c"},
		{"caps a once:S", "0+ 0- 2+ 2- 1+ 1- 1+", "S: : S:a : S:a", "word 1=S-a"},
		{"caps a once:C", "0+ 0- 2+ 2- 1+ 1- 1+", "C: : C:a : S:a", "word 1=S-a"},
		{"caps space once:C a", "0+ 0- 2+ 2- 1+ 1- 3+", "C: : C:space : :a", "3=a"},
		// what is no code does not end it
		{"caps a S-", "0+ 0- 2+ 2- 1+", "S: : S:a", "word 1=S-a"},
		{"caps a C-", "0+ 0- 2+ 1+ 2- 1-", "C: CS:a S:a :", "word"},
		{"caps a S/space", "0+ 0- 2h 2- 1+", "S: : S:a", "word 1=S-a"},
		{"caps a S/space", "0+ 0- 2+ 2- 1+", ":space : :a", "1=a"},
		{"caps C/a", "0+ 0- 1+", "S:a", "word 1=S-a"},
		{"caps 1/a | pass b", "0+ 0- 1+", "S:a", "word 1=S-a"},
		{"caps a none", "0+ 0- 2+ 2- 1+", "S:a", "word 1=S-a"},
		{"caps a mo:1 | pass b pass", "0+ 0- 2+ 1+", "S:b", "word 2=mo:1 1=S-b"},
		{"caps a tg:1 | pass b pass", "0+ 0- 2+ 2- 1+", "S:b", "fixed:2 word 1=S-b"},
		{"caps a to:1 | pass b pass", "0+ 0- 2+ 2- 1+", "S:b", "fixed:2 word 1=S-b"},
		{"caps a macro:0", "0+ 0- 2+ 2- 1+", ":z :z,space :z : S:a", "word 1=S-a"},
	}, "d=z t=space u=z")
}

func TestPressPlaysMacros(t *testing.T) {
	macros := []string{"d=S- t=b u=S-", "t=a t=a", "", "d=a d=S-a u=a u=S-a"}
	checkCases(t, []playCase{
		{"macro:0", "0+", "S: S:b S: :", "0=macro:0"},
		{"macro:0", "0+ 0-", "S: S:b S: :", ""},
		{"macro:0", "0h", "S: S:b S: :", "0=macro:0"},
		{"macro:0 a", "1+ 0+ 0- 1-", ":a S:a S:a,b S:a :a :", ""},
		{"macro:0 a", "0+ 1+ 0- 1-", "S: S:b S: : :a :", ""},
		{"macro:1", "0+ 0- 0+", ":a : :a : :a : :a :", "0=macro:1"},
		{"macro:2 a", "0+ 0-", "", ""},
		{"macro:2 a", "1+ 0+", ":a", "1=a 0=macro:2"},
		// without those that are equal to the report before them
		{"macro:3", "0+", ":a S:a :", "0=macro:3"},
		{"macro:1 a", "1+ 0+", ":a", "1=a 0=macro:1"},
		{"macro:0 S-", "1+ 0+ 1-", "S: S:b S: :", "0=macro:0"},
		{"macro:3 a", "1+ 0+", ":a S:a :a", "1=a 0=macro:3"},
		{"macro:3 S-a", "1+ 0+", "S:a", "1=S-a 0=macro:3"},
		{"macro:1 macro:0", "0+ 1+", ":a : :a : S: S:b S: :", "0=macro:1 1=macro:0"},
	}, macros...)
	checkCases(t, []playCase{
		{"macro:1 a", "0+ 1+", ":b : :a", "0=macro:1 1=a"},
		{"macro:2 a", "0+ 1+", ":a", "0=macro:2 1=a"},
		{"macro:3 a", "1+ 0+ 0- 1-", ":a :", ""},
		{"macro:3", "0h", "", "0=macro:3"},
	}, "t=a", "t=b")
	checkCases(t, []playCase{
		{"macro:0", "0+ 0-", "", ""},
		{"a macro:3", "0+ 1+ 0-", ":a :", "1=macro:3"},
	})
}

func TestReleaseAlone(t *testing.T) {
	e := engineOf(t, "a b mo:1 once:S caps macro:0 tg:1 | pass pass pass C-c pass pass pass", "t=z")
	e.Held = []impl.Held{{Key: 3, Action: impl.Action{Kind: impl.ActKey, Code: 3, Mods: 1}}, {Key: 0, Action: letterA}, {Key: 2, Action: impl.Action{Kind: impl.ActMomentary, N: 1}}}
	e.Fixed, e.Once, e.Caps = 2, 5, true
	cases := []struct {
		key            int
		reports, state string
	}{
		{3, ":a", "fixed:2 waits:CA word 0=a 2=mo:1"},
		{0, "C:c", "fixed:2 waits:CA word 3=C-c 2=mo:1"},
		{2, "", "fixed:2 waits:CA word 3=C-c 0=a"},
	}
	for _, c := range cases {
		got, l, ok := checkRelease(t, e, c.key)
		if !ok || textOfReports(l) != c.reports || stateOf(got) != c.state {
			t.Errorf("Release of key %d = %q, %q, %v, want %q, %q, true", c.key, stateOf(got), textOfReports(l), ok, c.state, c.reports)
		}
	}
	for _, key := range append([]int{1, 4, 5, 6, 7, 31, 32, 64, 66}, noNumbers...) {
		if _, _, ok := checkRelease(t, e, key); ok {
			t.Errorf("key %d is let go", key)
		}
	}
}

func TestTapKeys(t *testing.T) {
	cases := []struct {
		keymap         string
		keys           []int
		reports, state string
	}{
		{"a", nil, "", ""},
		{"a", []int{}, "", ""},
		{"a", []int{0}, ":a :", ""},
		{"a b", []int{1, 0, 0, 1}, ":b : :a : :a : :b :", ""},
		{"none a", []int{0, 0}, "", ""},
		{"once:S a", []int{0, 1, 1}, "S: : S:a : :a :", ""},
		{"once:S a", []int{0}, "S: :", "waits:S"},
		{"caps a space", []int{0, 1, 2, 1}, "S:a : :space : :a :", ""},
		{"caps a space", []int{1, 0, 1}, ":a : S:a :", "word"},
		{"tg:1 a | pass b", []int{1, 0, 1, 0, 1}, ":a : :b : :a :", ""},
		{"to:1 a | to:0 b", []int{0, 1, 0, 1, 0}, ":b : :a :", "fixed:2"},
		{"mo:1 a | pass b", []int{0, 1}, ":a :", ""},
		// a tap of a key that can be tapped or held is no hold
		{"S/a 1/b | c d", []int{0, 1, 0}, ":a : :b : :a :", ""},
		{"macro:0 a", []int{1, 0, 1}, ":a : S: S:b S: : :a :", ""},
		{"macro:1 a", []int{1, 0, 1}, ":a : :a :", ""},
		{"S- S-a", []int{0, 1}, "S: : S:a :", ""},
	}
	for _, c := range cases {
		e, l, ok := checkTaps(t, engineOf(t, c.keymap, "d=S- t=b u=S-"), c.keys)
		if !ok || textOfReports(l) != c.reports || stateOf(e) != c.state {
			t.Errorf("TapKeys of %q with %v = %q, %q, %v, want %q, %q, true", c.keymap, c.keys, stateOf(e), textOfReports(l), ok, c.state, c.reports)
		}
	}
}

func TestTapKeysWhileOthersAreHeld(t *testing.T) {
	e, _ := play(t, engineOf(t, "a mo:1 S- b | c pass pass pass"), "1+ 2+")
	got, l, ok := checkTaps(t, e, []int{0, 3, 0})
	if !ok || textOfReports(l) != "S:c S: S:b S: S:c S:" || stateOf(got) != "1=mo:1 2=S-" {
		t.Errorf("TapKeys = %q, %q, %v", stateOf(got), textOfReports(l), ok)
	}
	for _, keys := range [][]int{{1}, {2}, {0, 1}, {0, 0, 2, 0}, {4}, {-1}, {0, 4}, {3, 0, -1}, {32}, {0, 32}, {64}, {1, 1}} {
		if _, _, ok := checkTaps(t, e, keys); ok {
			t.Errorf("TapKeys with %v does not fail", keys)
		}
	}
	for _, key := range noNumbers {
		checkTaps(t, e, []int{key})
		if _, _, ok := checkTaps(t, e, []int{3, key, 0}); ok {
			t.Errorf("TapKeys with %d does not fail", key)
		}
	}
}

// There is no limit to the number of taps.
func TestTapKeysOfLongLists(t *testing.T) {
	e := engineOf(t, "a once:S tg:1 | b pass pass")
	checkTaps(t, e, slices.Repeat([]int{0, 1, 2, 1}, 300))
	got, l, ok := impl.TapKeys(e, make([]int, 100000))
	if !ok || !sameEngine(got, e) || len(l) != 200000 || textOf(l[0]) != ":a" || textOf(l[199999]) != ":" {
		t.Errorf("TapKeys of 100000 taps = %d reports, %v", len(l), ok)
	}
	if _, l, ok := impl.TapKeys(e, append(make([]int, 10000), 3)); ok || len(l) != 0 {
		t.Errorf("TapKeys with a bad key at the end = %d reports, %v", len(l), ok)
	}
}

func TestIsWordCode(t *testing.T) {
	codes := append([]int{64, 100, 128, 255, 256, 257, 256 + 39, 1<<32 + 39, -39, -42}, noNumbers...)
	for code := -70; code <= 130; code++ {
		codes = append(codes, code)
	}
	for _, code := range codes {
		if got, want := impl.IsWordCode(code), isWordByTheText(code); got != want {
			t.Errorf("IsWordCode(%d) = %v, want %v", code, got, want)
		}
	}
}

func TestHeldAt(t *testing.T) {
	l := heldOf(t, "a S-b mo:1 once:C caps none")
	for _, keys := range [][]int{{}, {0}, {3}, {5, 2, 0}, {0, 1, 2, 3, 4, 5}, {31, 0, 24}, {2, 2}, {1, 2, 1, 2}, {0, -1}, {32, 7}, {7, 64, -64}} {
		e := impl.Engine{}
		for i, key := range keys {
			e.Held = append(e.Held, impl.Held{Key: key, Action: l[i].Action})
		}
		// What is asked for need not be valid: it is only looked for.
		for _, key := range append([]int{0, 1, 2, 3, 4, 5, 7, 24, 31, 32, 64}, noNumbers...) {
			if got, want := impl.HeldAt(e, key), slices.Index(keys, key); got != want {
				t.Errorf("HeldAt(%v, %d) = %d, want %d", e.Held, key, got, want)
			}
		}
	}
	e := engineOf(t, "a b c")
	e, _ = play(t, e, "2+ 0+ 1+")
	for key, want := range []int{1, 2, 0, -1} {
		if got := impl.HeldAt(e, key); got != want {
			t.Errorf("HeldAt(%v, %d) = %d, want %d", e.Held, key, got, want)
		}
	}
	e, _ = play(t, e, "2-")
	for key, want := range []int{0, 1, -1, -1} {
		if got := impl.HeldAt(e, key); got != want {
			t.Errorf("HeldAt(%v, %d) = %d, want %d", e.Held, key, got, want)
		}
	}
}

// randomMacros returns up to four macros.
func randomMacros(source *rand.Rand) [][]impl.Step {
	all := everyTap()
	var macros [][]impl.Step
	for range source.Intn(5) {
		macros = append(macros, randomMacro(source, []impl.Step{all[source.Intn(len(all))], all[source.Intn(len(all))], {Code: 1}, {Mods: 2}, {Code: 1, Mods: 2}}))
	}
	return macros
}

// densely replaces most actions of a keymap by a few that change each other.
func densely(source *rand.Rand, m impl.Keymap) impl.Keymap {
	few := []impl.Action{letterA, {Kind: impl.ActKey, Code: 27}, {Kind: impl.ActKey, Code: 41}, {Kind: impl.ActKey, Code: 2, Mods: 1}, {Kind: impl.ActKey, Mods: 2}, {Kind: impl.ActKey, Code: 3, Mods: 2},
		{Kind: impl.ActOnce, Mods: 2}, {Kind: impl.ActOnce, Mods: 3}, {Kind: impl.ActOnce, Mods: 9}, {Kind: impl.ActCaps}, {Kind: impl.ActModTap, Code: 4, Mods: 4}, {Kind: impl.ActTo}}
	for n := range 4 {
		few = append(few, impl.Action{Kind: impl.ActMacro, N: n})
	}
	for n := 1; n < len(m.Layers); n++ {
		few = append(few, impl.Action{Kind: impl.ActMomentary, N: n}, impl.Action{Kind: impl.ActToggle, N: n}, impl.Action{Kind: impl.ActTo, N: n}, impl.Action{Kind: impl.ActLayerTap, Code: 5, N: n})
	}
	for _, layer := range m.Layers {
		for key := range layer {
			if layer[key] != passes && source.Intn(5) > 0 {
				layer[key] = few[source.Intn(len(few))]
			}
		}
	}
	return m
}

// randomEngines returns engines in which nothing is held, fixed or waiting.
func randomEngines(n int) []impl.Engine {
	source := rand.New(rand.NewSource(9))
	var l []impl.Engine
	for i, m := range randomKeymaps(n) {
		if i%4 > 0 {
			m = densely(source, m)
		}
		l = append(l, impl.Engine{Map: m, Macros: randomMacros(source)})
	}
	return l
}

var allHeld = heldActions()

// inAnyState returns the engine with keys that are held, layers that are fixed and modifiers that wait.
func inAnyState(source *rand.Rand, e impl.Engine) impl.Engine {
	layers := len(e.Map.Layers)
	for _, key := range source.Perm(e.Map.Keys)[:source.Intn(e.Map.Keys+1)] {
		a := allHeld[source.Intn(len(allHeld))]
		if layersNeeded(a) <= layers {
			e.Held = append(e.Held, impl.Held{Key: key, Action: a})
		}
	}
	e.Fixed = 2 * source.Intn(1<<(layers-1))
	e.Once = source.Intn(16)
	e.Caps = source.Intn(2) == 0
	return e
}

func TestIsEngine(t *testing.T) {
	source := rand.New(rand.NewSource(90))
	for _, e := range randomEngines(400) {
		for _, e := range []impl.Engine{e, inAnyState(source, e)} {
			if !isEngineByTheText(e) || !impl.IsEngine(e) {
				t.Fatalf("IsEngine(%v) = %v", e, impl.IsEngine(e))
			}
		}
	}
	for i, e := range badEngines(t) {
		if isEngineByTheText(e) || impl.IsEngine(e) {
			t.Errorf("bad engine %d: IsEngine(%v) = %v", i, e, impl.IsEngine(e))
		}
	}
}

// badEngines are each invalid for one reason.
func badEngines(t *testing.T) []impl.Engine {
	good := engineOf(t, "a mo:1 once:S tg:1 | b pass caps macro:0", "t=z", "d=S- t=b u=S-")
	good.Held = []impl.Held{{Key: 1, Action: impl.Action{Kind: impl.ActMomentary, N: 1}}, {Key: 0, Action: letterA}}
	good.Fixed, good.Once, good.Caps = 2, 5, true
	l := []impl.Engine{{}, {Caps: true}, {Macros: good.Macros}}
	change := func(to func(e *impl.Engine)) {
		e := copyOfEngine(good)
		to(&e)
		l = append(l, e)
	}
	for _, m := range badKeymaps(t) {
		l = append(l, impl.Engine{Map: m})
		change(func(e *impl.Engine) { e.Map, e.Held, e.Fixed = m, nil, 0 })
	}
	for _, text := range badMacroTexts {
		change(func(e *impl.Engine) { e.Macros = [][]impl.Step{stepsOf(t, text)} })
		change(func(e *impl.Engine) { e.Macros = append(e.Macros, nil, stepsOf(t, text)) })
		change(func(e *impl.Engine) { e.Macros = append([][]impl.Step{stepsOf(t, text)}, e.Macros...) })
	}
	for _, s := range badSteps() {
		change(func(e *impl.Engine) { e.Macros[1][1] = s })
	}
	for _, n := range []int{5, 6, 1000} {
		change(func(e *impl.Engine) { e.Macros = make([][]impl.Step, n) })
		change(func(e *impl.Engine) { e.Macros = slices.Repeat(good.Macros[:1], n) })
	}
	for _, held := range badHeld(t) {
		change(func(e *impl.Engine) { e.Map, e.Held = filled(32, 4, letterA), held })
	}
	for _, key := range append([]int{4, 5, 24, 31, 32, 64}, noNumbers...) {
		change(func(e *impl.Engine) { e.Held[0].Key = key })
		change(func(e *impl.Engine) { e.Held = append(e.Held, impl.Held{Key: key, Action: letterA}) })
	}
	for _, key := range []int{0, 1} {
		change(func(e *impl.Engine) { e.Held = append(e.Held, impl.Held{Key: key}) })
	}
	for _, text := range []string{"mo:2", "mo:3", "tg:2", "tg:3", "to:2", "to:3", "pass", "S/a", "1/a", "2/a"} {
		change(func(e *impl.Engine) { e.Held[0].Action = heldOf(t, text)[0].Action })
		change(func(e *impl.Engine) { e.Held = append(e.Held, impl.Held{Key: 3, Action: heldOf(t, text)[0].Action}) })
	}
	for _, fixed := range append([]int{1, 3, 4, 5, 6, 7, 8, 10, 12, 14, 15, 16, 18, 32, 64, 256, 258}, noNumbers...) {
		change(func(e *impl.Engine) { e.Fixed = fixed })
	}
	for _, once := range append([]int{16, 17, 31, 32, 64, 256, 257}, noNumbers...) {
		change(func(e *impl.Engine) { e.Once = once })
	}
	return l
}

func TestFixedLayersOfEachKeymap(t *testing.T) {
	masks := append([]int{255, 256, 1 << 40}, noNumbers...)
	for mask := -20; mask <= 40; mask++ {
		masks = append(masks, mask)
	}
	for layers := 1; layers <= 4; layers++ {
		for _, mask := range masks {
			e := impl.Engine{Map: filled(2, layers, letterA), Fixed: mask}
			want := mask >= 0 && mask%2 == 0 && mask < []int{0, 2, 4, 8, 16}[layers]
			if got := impl.IsEngine(e); got != want {
				t.Errorf("with %d layers and Fixed %d, IsEngine = %v", layers, mask, got)
			}
			if _, _, ok := checkPress(t, e, 0, false); ok != want {
				t.Errorf("with %d layers and Fixed %d, Press = %v", layers, mask, ok)
			}
		}
	}
}

func TestHeldActionsOfEachKeymap(t *testing.T) {
	for layers := 1; layers <= 4; layers++ {
		for _, a := range sortedActions() {
			e := impl.Engine{Map: filled(2, layers, letterA), Held: []impl.Held{{Key: 1, Action: a}}}
			want := layersNeeded(a) <= layers && !slices.Contains([]int{impl.ActPass, impl.ActModTap, impl.ActLayerTap}, a.Kind)
			if got := impl.IsEngine(e); got != want {
				t.Errorf("with %d layers and %v, IsEngine = %v", layers, a, got)
			}
		}
	}
	for keys := 1; keys <= 32; keys++ {
		for key := -3; key < 40; key++ {
			e := impl.Engine{Map: filled(keys, 1, letterA), Held: []impl.Held{{Key: key, Action: letterA}}}
			if got, want := impl.IsEngine(e), key >= 0 && key < keys; got != want {
				t.Errorf("with %d keys and key %d held, IsEngine = %v", keys, key, got)
			}
		}
	}
}

func TestNewEngine(t *testing.T) {
	source := rand.New(rand.NewSource(91))
	for _, m := range validKeymaps(t) {
		macros := randomMacros(source)
		want := impl.Engine{Map: m, Macros: macros}
		if got, ok := impl.NewEngine(m, macros); !ok || !sameEngine(got, want) || !impl.IsEngine(got) {
			t.Fatalf("NewEngine(%v, %v) = %v, %v", m, macros, got, ok)
		}
	}
	m := mapOf(t, "a macro:3")
	for n := range 8 {
		for _, text := range macroTexts {
			e, ok := impl.NewEngine(m, slices.Repeat([][]impl.Step{stepsOf(t, text)}, n))
			if ok != (n <= 4) || ok && len(e.Macros) != n || !ok && !isZeroEngine(e) {
				t.Errorf("NewEngine with %d macros = %v, %v", n, e, ok)
			}
		}
	}
}

func TestNewEngineRejects(t *testing.T) {
	good := mapOf(t, "a", "b")
	macros := [][]impl.Step{stepsOf(t, "t=a")}
	check := func(m impl.Keymap, macros [][]impl.Step) {
		t.Helper()
		if e, ok := impl.NewEngine(m, macros); ok || !isZeroEngine(e) {
			t.Errorf("NewEngine(%v, %v) = %v, %v", m, macros, e, ok)
		}
	}
	for _, m := range badKeymaps(t) {
		check(m, nil)
		check(m, macros)
	}
	for _, text := range badMacroTexts {
		check(good, [][]impl.Step{stepsOf(t, text)})
		check(good, [][]impl.Step{macros[0], stepsOf(t, text)})
		check(good, [][]impl.Step{nil, nil, nil, stepsOf(t, text)})
	}
	for _, s := range badSteps() {
		check(good, [][]impl.Step{macros[0], {s}})
	}
	check(good, make([][]impl.Step, 5))
	check(good, make([][]impl.Step, 100000))
}

func TestBadEnginesDoNothing(t *testing.T) {
	for _, e := range badEngines(t) {
		for _, key := range []int{-1, 0, 1, 2, 3, 4, 31, 32} {
			for _, hold := range []bool{false, true} {
				if got, l, ok := impl.Press(e, key, hold); ok || len(l) != 0 || !isZeroEngine(got) {
					t.Fatalf("Press(%v, %d, %v) = %v, %v, %v", e, key, hold, got, l, ok)
				}
			}
			if got, l, ok := impl.Release(e, key); ok || len(l) != 0 || !isZeroEngine(got) {
				t.Fatalf("Release(%v, %d) = %v, %v, %v", e, key, got, l, ok)
			}
			for _, keys := range [][]int{nil, {}, {key}, {2, key}} {
				if got, l, ok := impl.TapKeys(e, keys); ok || len(l) != 0 || !isZeroEngine(got) {
					t.Fatalf("TapKeys(%v, %v) = %v, %v, %v", e, keys, got, l, ok)
				}
			}
		}
	}
}

func TestPressRejectsKeys(t *testing.T) {
	for _, keys := range []int{1, 2, 5, 31, 32} {
		e := impl.Engine{Map: filled(keys, 2, letterA), Held: []impl.Held{{Key: keys / 2, Action: letterA}}}
		for _, key := range append([]int{31, 32, 33, 63, 64, 255, 256}, noNumbers...) {
			for _, hold := range []bool{false, true} {
				if _, _, ok := checkPress(t, e, key, hold); ok != (key >= 0 && key < keys && key != keys/2) {
					t.Errorf("of %d keys, Press of %d = %v", keys, key, ok)
				}
			}
		}
		for key := -2; key < 34; key++ {
			checkPress(t, e, key, false)
			checkRelease(t, e, key)
			checkTaps(t, e, []int{key})
		}
	}
}

// Every move of up to four is made, and each that fails is tried too.
func TestPressAndReleaseInEachOrder(t *testing.T) {
	e := engineOf(t, "a S/b once:S caps 1/c macro:0 | space tg:1 once:CS C- pass to:0", "d=a t=S-a u=a")
	moves := 0
	var check func(e impl.Engine, n int)
	check = func(e impl.Engine, n int) {
		for key := range e.Map.Keys + 1 {
			for _, hold := range []bool{false, true} {
				if next, _, ok := checkPress(t, e, key, hold); ok && n > 1 {
					check(next, n-1)
				}
			}
			if next, _, ok := checkRelease(t, e, key); ok && n > 1 {
				check(next, n-1)
			}
			moves += 3
		}
	}
	check(e, 4)
	if moves < 20000 {
		t.Errorf("only %d moves were made", moves)
	}
}

// randomMove presses or lets go a key, or tries to.
func randomMove(t *testing.T, source *rand.Rand, e impl.Engine) (impl.Engine, []impl.Report, bool) {
	t.Helper()
	key := source.Intn(min(e.Map.Keys+1, 6+source.Intn(30)))
	if source.Intn(3) == 0 {
		return checkRelease(t, e, key)
	}
	return checkPress(t, e, key, source.Intn(2) == 0)
}

func TestPromise7OfKeysThatAreLetGo(t *testing.T) {
	source := rand.New(rand.NewSource(92))
	for _, e := range randomEngines(500) {
		var sent []impl.Report
		var last impl.Report
		take := func(next impl.Engine, l []impl.Report) {
			for _, r := range l {
				checkReport(t, r)
				if sameAs(r, last) {
					t.Fatalf("%v sends %v again", e, r)
				}
				last = r
			}
			e, sent = next, append(sent, l...)
			if want := reportByTheText(e.Held); !sameAs(last, want) {
				t.Fatalf("the last report of %v is %v, want %v", e, last, want)
			}
		}
		for range 40 {
			if next, l, ok := randomMove(t, source, e); ok {
				take(next, l)
			}
		}
		keys := []int{}
		for _, h := range e.Held {
			keys = append(keys, h.Key)
		}
		source.Shuffle(len(keys), func(i int, k int) { keys[i], keys[k] = keys[k], keys[i] })
		for _, key := range keys {
			next, l, ok := checkRelease(t, e, key)
			if !ok {
				t.Fatalf("Release(%v, %d) fails", e, key)
			}
			take(next, l)
		}
		if len(e.Held) != 0 || len(sent) > 0 && !isZeroReport(sent[len(sent)-1]) {
			t.Fatalf("with all keys let go, %v has sent %v", e, sent)
		}
	}
}

func TestMovesOfEnginesInAnyState(t *testing.T) {
	source := rand.New(rand.NewSource(93))
	for _, e := range randomEngines(600) {
		e = inAnyState(source, e)
		for range 10 {
			next, _, ok := randomMove(t, source, e)
			if ok {
				e = next
			}
			var keys []int
			for range source.Intn(5) {
				keys = append(keys, source.Intn(e.Map.Keys))
			}
			checkTaps(t, e, keys)
		}
	}
}

func TestPromise7OfModifiersThatWait(t *testing.T) {
	between := []string{"", "4+ 4-", "5+ 5-", "6+ 6-", "7+ 7-", "8h 8-", "9+ 9-", "4+ 6+ 4- 6-"}
	made := engineOf(t, "none a none z mo:1 tg:1 S- none C/x caps | pass pass pass pass pass pass pass pass pass pass")
	for once := 1; once <= 15; once++ {
		for _, own := range []int{0, 1, 2, 4, 8, 10, 15} {
			for code := 1; code <= 56; code++ {
				e := copyOfEngine(made)
				e.Map.Layers[0][0] = impl.Action{Kind: impl.ActOnce, Mods: once}
				e.Map.Layers[0][2] = impl.Action{Kind: impl.ActKey, Code: code, Mods: own}
				e, _ = play(t, e, "0+ 0- "+between[code%len(between)])
				// A word would add shift to some of the codes.
				e.Caps = false
				next, l := play(t, e, "2+")
				want := impl.Action{Kind: impl.ActKey, Code: code, Mods: once | own}
				if got := next.Held[len(next.Held)-1].Action; got != want || next.Once != 0 {
					t.Fatalf("with %d waiting, code %d with %d is held as %v", once, code, own, got)
				}
				if len(l) != 1 || !sameAs(l[0], impl.Report{Mods: once | own, Keys: []int{code}}) {
					t.Fatalf("with %d waiting, code %d with %d sends %v", once, code, own, l)
				}
				// The code behind it gets none of them.
				if _, l := play(t, next, "2- 3+ 3-"); textOfReports(l) != ": :z :" {
					t.Fatalf("after a code with %d, z sends %s", once, textOfReports(l))
				}
			}
		}
	}
}

func TestPromise7OfCapitals(t *testing.T) {
	made := engineOf(t, "caps none z")
	for mods := range 16 {
		for once := range 16 {
			for code := 1; code <= 56; code++ {
				e := copyOfEngine(made)
				e.Map.Layers[0][1] = impl.Action{Kind: impl.ActKey, Code: code, Mods: mods}
				e, _ = play(t, e, "0+ 0-")
				e.Once = once
				want := mods | once
				if isLetter(code) && (want == 0 || want == impl.ModShift) {
					want = impl.ModShift
				}
				next, l := play(t, e, "1+ 1-")
				if len(l) != 2 || !sameAs(l[0], impl.Report{Mods: want, Keys: []int{code}}) || !isZeroReport(l[1]) {
					t.Fatalf("in a word, code %d with %d and %d waiting sends %v", code, mods, once, l)
				}
				if next.Caps != isWordByTheText(code) {
					t.Fatalf("after code %d, Caps is %v", code, next.Caps)
				}
				// Behind it, z is a capital if and only if the word goes on.
				after := ":z :"
				if isWordByTheText(code) {
					after = "S:z :"
				}
				if _, l := play(t, next, "2+ 2-"); textOfReports(l) != after {
					t.Fatalf("after code %d, z sends %q, want %q", code, textOfReports(l), after)
				}
			}
		}
	}
}

// A word is typed on a keymap with a key for each code from 1 on.
func TestPromise7OfWords(t *testing.T) {
	e := engineOf(t, "caps a b c 1 9 minus back space enter once:C")
	keys := map[rune]int{'^': 0, 'a': 1, 'b': 2, 'c': 3, '1': 4, '9': 5, '-': 6, '<': 7, ' ': 8, '\n': 9, '!': 10}
	for typed, want := range map[string]string{
		"abc":          "abc",
		"^abc":         "ABC",
		"a^bc":         "aBC",
		"^ab c":        "AB c",
		"^a-b1c9 a":    "A-B1C9 a",
		"^a<b\nc":      "A<B\nc",
		"^a^b":         "Ab",
		"^^ab":         "ab",
		"^ a":          " a",
		"^ab ^bc a":    "AB BC a",
		"^1a":          "1A",
		"^a!bc":        "A?C",
		"^a! c":        "A?c",
		"!^bc":         "?C",
		"^-<-<":        "-<-<",
		"^a^ ^b":       "A B",
		"^c1-9 1-9ab":  "C1-9 1-9ab",
		"a1-^a1-a 1a-": "a1-A1-A 1a-",
	} {
		var taps []int
		for _, c := range typed {
			taps = append(taps, keys[c])
		}
		_, l, ok := checkTaps(t, e, taps)
		if got := wordOf(l); !ok || got != want {
			t.Errorf("%q types %q, want %q", typed, got, want)
		}
	}
}

// wordOf has a letter for each code that goes down, a capital for one with shift and ? for one with control.
func wordOf(l []impl.Report) string {
	chars := map[string]string{"minus": "-", "back": "<", "space": " ", "enter": "\n"}
	text := ""
	for _, r := range l {
		for _, code := range r.Keys {
			name := namesInOrder[code-1]
			if c, ok := chars[name]; ok {
				name = c
			}
			switch r.Mods {
			case 0:
				text += name
			case impl.ModShift:
				text += strings.ToUpper(name)
			default:
				text += "?"
			}
		}
	}
	return text
}

// span is the memory of a slice, with its unused capacity.
type span struct{ from, to uintptr }

// spansOf returns the memory of all slices in a value.
func spansOf(v reflect.Value) []span {
	var l []span
	switch v.Kind() {
	case reflect.Struct:
		for i := range v.NumField() {
			l = append(l, spansOf(v.Field(i))...)
		}
	case reflect.Slice:
		if n := uintptr(v.Cap()) * v.Type().Elem().Size(); n > 0 {
			l = append(l, span{v.Pointer(), v.Pointer() + n})
		}
		for i := range v.Len() {
			l = append(l, spansOf(v.Index(i))...)
		}
	}
	return l
}

// checkApart checks that no two slices of these values share memory.
func checkApart(t *testing.T, values ...any) {
	t.Helper()
	var all []span
	for _, v := range values {
		all = append(all, spansOf(reflect.ValueOf(v))...)
	}
	slices.SortFunc(all, func(a span, b span) int { return int(a.from) - int(b.from) })
	for i := 1; i < len(all); i++ {
		if all[i].from < all[i-1].to {
			t.Fatalf("two slices of %v share memory", values)
		}
	}
}

// roomy returns a list with more capacity, which has something in it.
func roomy[T any](l []T, fill T) []T {
	c := append(slices.Grow(slices.Clone(l), 3), fill, fill, fill)
	return c[:len(l)]
}

// roomyEngine returns the engine with more capacity in each list.
func roomyEngine(e impl.Engine) impl.Engine {
	c := copyOfEngine(e)
	c.Held = roomy(c.Held, impl.Held{Key: -7})
	for i := range c.Map.Layers {
		c.Map.Layers[i] = roomy(c.Map.Layers[i], impl.Action{Kind: -7})
	}
	for i := range c.Macros {
		c.Macros[i] = roomy(c.Macros[i], impl.Step{Kind: -7})
	}
	c.Map.Layers = roomy(c.Map.Layers, []impl.Action{{N: -7}})
	c.Macros = roomy(c.Macros, []impl.Step{{Code: -7}})
	return c
}

// wholeOf writes a value with the unused capacity of its slices.
func wholeOf(v reflect.Value) string {
	text := ""
	switch v.Kind() {
	case reflect.Struct:
		for i := range v.NumField() {
			text += wholeOf(v.Field(i)) + ","
		}
	case reflect.Slice:
		whole := v.Slice(0, v.Cap())
		text = fmt.Sprint(v.Len(), "of", v.Cap())
		for i := range whole.Len() {
			text += " " + wholeOf(whole.Index(i))
		}
	default:
		text = fmt.Sprint(v)
	}
	return "(" + text + ")"
}

func TestEnginesAreNewMemory(t *testing.T) {
	source := rand.New(rand.NewSource(94))
	for i, e := range append(randomEngines(150), badEngines(t)...) {
		if impl.IsEngine(e) && i%2 == 1 {
			e = inAnyState(source, e)
		}
		e = roomyEngine(e)
		before := wholeOf(reflect.ValueOf(e))
		made, _ := impl.NewEngine(e.Map, e.Macros)
		results := []any{e, made}
		impl.IsEngine(e)
		for key := range min(e.Map.Keys+1, 5) {
			for _, hold := range []bool{false, true} {
				next, l, _ := impl.Press(e, key, hold)
				results = append(results, next, l)
			}
			next, l, _ := impl.Release(e, key)
			results = append(results, next, l)
		}
		for _, keys := range [][]int{nil, {0}, {0, 0, 1}, {1, 2, 0}} {
			keys = roomy(keys, -7)
			text := wholeOf(reflect.ValueOf(keys))
			next, l, _ := impl.TapKeys(e, keys)
			results = append(results, keys, next, l)
			if wholeOf(reflect.ValueOf(keys)) != text {
				t.Fatalf("the keys have become %v", keys)
			}
		}
		checkApart(t, results...)
		if after := wholeOf(reflect.ValueOf(e)); after != before {
			t.Fatalf("the engine has become %s, it was %s", after, before)
		}
	}
}

// What is done to a result shows neither in the argument nor in what comes later.
func TestEnginesStayAsTheyAre(t *testing.T) {
	e := engineOf(t, "a mo:1 macro:0 once:S | b pass pass caps", "d=S- t=b u=S-")
	e, _ = play(t, e, "3+ 3-")
	before := copyOfEngine(e)
	for key := range 4 {
		first, reports, _ := impl.Press(e, key, false)
		want, kept := copyOfEngine(first), textOfReports(reports)
		second, more, _ := impl.Press(e, key, false)
		second.Map.Layers[0][0], second.Macros[0][0], second.Held[0] = passes, impl.Step{}, impl.Held{}
		for _, r := range more {
			overwrite(r.Keys)
		}
		clear(more)
		if !sameEngine(first, want) || !sameEngine(e, before) || textOfReports(reports) != kept {
			t.Errorf("with another result changed, Press of key %d gave %v, %v of %v", key, first, reports, e)
		}
		checkPress(t, e, key, false)
		checkRelease(t, first, key)
	}
}
