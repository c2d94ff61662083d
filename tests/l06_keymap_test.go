package tests

import (
	"bytes"
	"math"
	"math/rand"
	"reflect"
	"slices"
	"strings"
	"testing"

	"loop.example/g03414/impl"
)

// mapOf returns the keymap whose layers have the actions with these formats, whether it is valid or not.
func mapOf(t *testing.T, layers ...string) impl.Keymap {
	t.Helper()
	actions := actionsOfTexts()
	m := impl.Keymap{}
	for _, texts := range layers {
		var layer []impl.Action
		for _, s := range strings.Fields(texts) {
			a, ok := actions[s]
			if !ok {
				t.Fatalf("%q is no action", s)
			}
			layer = append(layer, a)
		}
		m.Keys = len(layer)
		m.Layers = append(m.Layers, layer)
	}
	return m
}

// filled returns a keymap with one action everywhere.
func filled(keys int, layers int, a impl.Action) impl.Keymap {
	m := impl.Keymap{Keys: keys}
	for range layers {
		m.Layers = append(m.Layers, slices.Repeat([]impl.Action{a}, keys))
	}
	return m
}

func copyOf(m impl.Keymap) impl.Keymap {
	c := impl.Keymap{Keys: m.Keys}
	for _, layer := range m.Layers {
		c.Layers = append(c.Layers, slices.Clone(layer))
	}
	return c
}

func sameKeymap(a impl.Keymap, b impl.Keymap) bool {
	return a.Keys == b.Keys && slices.EqualFunc(a.Layers, b.Layers, slices.Equal[[]impl.Action])
}

// isZeroKeymap takes empty layers for the zero value, as the document does.
func isZeroKeymap(m impl.Keymap) bool { return m.Keys == 0 && len(m.Layers) == 0 }

// layersNeeded returns the least number of layers that a keymap with an action must have.
func layersNeeded(a impl.Action) int {
	switch a.Kind {
	case impl.ActMomentary, impl.ActToggle, impl.ActTo, impl.ActLayerTap:
		return a.N + 1
	}
	return 1
}

var letterA = impl.Action{Kind: impl.ActKey, Code: 1}

var passes = impl.Action{Kind: impl.ActPass}

// sortedActions has every valid action, in an order that does not change.
func sortedActions() []impl.Action {
	actions := actionsOfTexts()
	var texts []string
	for s := range actions {
		texts = append(texts, s)
	}
	slices.Sort(texts)
	l := make([]impl.Action, len(texts))
	for i, s := range texts {
		l[i] = actions[s]
	}
	return l
}

// randomKeymaps returns valid keymaps of all sizes, in which many actions pass.
func randomKeymaps(n int) []impl.Keymap {
	source := rand.New(rand.NewSource(6))
	all := sortedActions()
	var l []impl.Keymap
	for i := range n {
		keys, layers := i%impl.MaxMapKeys+1, i/impl.MaxMapKeys%impl.MaxLayers+1
		m := filled(keys, layers, passes)
		for layer := range layers {
			for key := range keys {
				if layer > 0 && source.Intn(2) == 0 {
					continue
				}
				a := passes
				for layer == 0 && a == passes || layersNeeded(a) > layers {
					a = all[source.Intn(len(all))]
				}
				m.Layers[layer][key] = a
			}
		}
		l = append(l, m)
	}
	return l
}

// keymapTexts are formats of keymaps, written down from the text of the document.
var keymapTexts = []string{
	"a",
	"none",
	"caps",
	"macro:3",
	"to:0",
	"S-",
	"a | pass",
	"a | none",
	"a | pass | pass | pass",
	"a mo:1 | b pass",
	"a b | c pass",
	"a b | pass pass | c d",
	"tg:1 1/a | to:1 mo:1",
	"a | tg:2 | 2/space",
	"a b mo:1 S/c 2/d once:S | 1 pass pass 2 tg:2 caps | f1 to:0 pass pass left tg:2",
	"tg:3 to:3 mo:3 3/z | pass macro:0 once:CSAG CSAG-f9 | CSAG/0 CG- none 0 | mo:1 pass minus caps",
	strings.Repeat("a ", impl.MaxMapKeys-1) + "a",
	strings.Repeat("tg:3 ", impl.MaxMapKeys-1) + "a" + strings.Repeat(" |"+strings.Repeat(" pass", impl.MaxMapKeys), impl.MaxLayers-1),
}

func validKeymaps(t *testing.T) []impl.Keymap {
	var l []impl.Keymap
	for _, s := range keymapTexts {
		l = append(l, mapOf(t, strings.Split(s, "|")...))
	}
	return append(l, randomKeymaps(300)...)
}

// badKeymaps are each invalid for one reason.
func badKeymaps(t *testing.T) []impl.Keymap {
	l := []impl.Keymap{
		{},
		{Layers: [][]impl.Action{}},
		{Layers: [][]impl.Action{{}}},
		{Layers: [][]impl.Action{nil, nil}},
		{Keys: 1},
		{Keys: 1, Layers: [][]impl.Action{nil}},
		{Keys: 1, Layers: [][]impl.Action{{letterA}, nil}},
		{Keys: 1, Layers: [][]impl.Action{nil, {letterA}}},
		{Keys: 2, Layers: [][]impl.Action{{letterA}, {letterA, letterA}}},
		{Keys: 2, Layers: [][]impl.Action{{letterA, letterA}, {letterA}}},
		{Keys: 2, Layers: [][]impl.Action{{letterA, letterA}, {letterA, letterA, letterA}}},
		{Keys: 2, Layers: [][]impl.Action{{letterA, letterA}, {letterA, letterA}, {letterA}, {letterA, letterA}}},
		filled(impl.MaxMapKeys+1, 1, letterA),
		filled(impl.MaxMapKeys+1, impl.MaxLayers, letterA),
		filled(1, impl.MaxLayers+1, letterA),
		filled(impl.MaxMapKeys, impl.MaxLayers+1, letterA),
		filled(1, 1000, letterA),
		filled(1000, 1, letterA),
		filled(256, 1, letterA),
		filled(1, 256, letterA),
	}
	for _, keys := range []int{math.MinInt, -3, -1, 0, 1, 2, 4, 33, 256, 1<<32 + 3, math.MaxInt} {
		m := filled(3, 2, letterA)
		m.Keys = keys
		l = append(l, m)
	}
	for _, texts := range [][]string{
		{"pass"}, {"a pass"}, {"pass a"}, {"a pass", "a a"}, {"pass", "pass"}, {"a b pass c", "a a a a", "a a a a", "a a a a"},
		{"mo:1"}, {"tg:1"}, {"to:1"}, {"1/a"}, {"a mo:3"}, {"to:3 a"},
		{"a mo:2", "b pass"}, {"a", "mo:2"}, {"tg:2", "a"}, {"a", "tg:3"}, {"to:2", "a"}, {"a", "to:2"}, {"2/a", "a"}, {"a", "3/a"},
		{"mo:3", "a", "a"}, {"a", "tg:3", "a"}, {"a", "a", "to:3"}, {"a", "a", "3/a"},
	} {
		l = append(l, mapOf(t, texts...))
	}
	for _, a := range []impl.Action{{Kind: -1}, {Kind: 11}, {Kind: impl.ActKey}, {Kind: impl.ActKey, Code: 57}, {Code: 1}, {N: 1}, {Kind: impl.ActTo, N: -1}, {Kind: impl.ActMacro, N: 4}, {Kind: impl.ActMomentary}, {Kind: impl.ActMomentary, N: 4}, {Kind: impl.ActPass, N: -1}} {
		for layer := range impl.MaxLayers {
			for key := range 3 {
				m := filled(3, impl.MaxLayers, letterA)
				m.Layers[layer][key] = a
				l = append(l, m)
			}
		}
	}
	return l
}

func TestIsKeymap(t *testing.T) {
	for _, m := range validKeymaps(t) {
		if !impl.IsKeymap(m) {
			t.Errorf("IsKeymap(%v) = false", m)
		}
	}
	for _, m := range badKeymaps(t) {
		if impl.IsKeymap(m) {
			t.Errorf("IsKeymap(%v) = true", m)
		}
	}
}

func TestIsKeymapAroundTheLimits(t *testing.T) {
	for keys := range impl.MaxMapKeys + 4 {
		for layers := range impl.MaxLayers + 3 {
			want := keys >= 1 && keys <= 32 && layers >= 1 && layers <= 4
			if got := impl.IsKeymap(filled(keys, layers, letterA)); got != want {
				t.Errorf("with %d keys and %d layers, IsKeymap = %v", keys, layers, got)
			}
		}
	}
}

func TestIsKeymapOfEachAction(t *testing.T) {
	all := sortedActions()
	for layers := 1; layers <= impl.MaxLayers; layers++ {
		for layer := range layers {
			for _, a := range all {
				m := filled(2, layers, letterA)
				m.Layers[layer][1] = a
				want := layersNeeded(a) <= layers && (layer > 0 || a != passes)
				if got := impl.IsKeymap(m); got != want {
					t.Errorf("with %v in layer %d of %d, IsKeymap = %v", a, layer, layers, got)
				}
			}
		}
	}
	for _, a := range badActions() {
		m := filled(2, 2, letterA)
		m.Layers[1][1] = a
		if impl.IsKeymap(m) {
			t.Errorf("with %v, IsKeymap = true", a)
		}
	}
}

// masksOn are masks of layers, with bits that belong to no layer among them.
func masksOn() []int {
	masks := []int{math.MinInt, math.MinInt + 2, math.MaxInt, math.MaxInt - 14, 1 << 32, 1 << 62, -1 << 4, 1<<40 | 2}
	for on := -40; on <= 40; on++ {
		masks = append(masks, on)
	}
	return masks
}

// isOn reads the bit of a layer in the two's complement.
func isOn(on int, layer int) bool { return uint64(on)>>layer%2 == 1 }

func TestPromise5OfLayers(t *testing.T) {
	for _, m := range validKeymaps(t) {
		for _, on := range masksOn() {
			for key := range m.Keys {
				want := 0
				for layer := 1; layer < len(m.Layers); layer++ {
					if isOn(on, layer) && m.Layers[layer][key] != passes {
						want = layer
					}
				}
				if got := impl.LayerAt(m, on, key); got != want {
					t.Fatalf("LayerAt(%v, %d, %d) = %d, want %d", m, on, key, got, want)
				}
				if got := impl.ActionAt(m, on, key); got != m.Layers[want][key] {
					t.Fatalf("ActionAt(%v, %d, %d) = %v, want that of layer %d", m, on, key, got, want)
				}
			}
		}
	}
}

func TestLayerAt(t *testing.T) {
	m := mapOf(t, "a b c d", "e pass pass none", "f g pass pass", "pass h pass i")
	cases := []struct {
		on, key, layer int
		action         string
	}{
		{0, 0, 0, "a"},
		{1, 0, 0, "a"},
		{2, 0, 1, "e"},
		{3, 0, 1, "e"},
		{4, 0, 2, "f"},
		{6, 0, 2, "f"},
		// the highest layer passes
		{8, 0, 0, "a"},
		{10, 0, 1, "e"},
		{12, 0, 2, "f"},
		{14, 0, 2, "f"},
		{2, 1, 0, "b"},
		{6, 1, 2, "g"},
		{8, 1, 3, "h"},
		{15, 1, 3, "h"},
		// all layers above 0 pass
		{15, 2, 0, "c"},
		{14, 2, 0, "c"},
		// an action that does nothing does not pass
		{2, 3, 1, "none"},
		{6, 3, 1, "none"},
		{14, 3, 3, "i"},
		// bits of no layer, and negative numbers
		{16, 0, 0, "a"},
		{18, 0, 1, "e"},
		{1 << 33, 0, 0, "a"},
		{-1, 0, 2, "f"},
		{-2, 1, 3, "h"},
		{-16, 0, 0, "a"},
		{-14, 0, 1, "e"},
		{math.MinInt, 1, 0, "b"},
		{math.MaxInt, 1, 3, "h"},
	}
	for _, c := range cases {
		if got := impl.LayerAt(m, c.on, c.key); got != c.layer {
			t.Errorf("LayerAt(m, %d, %d) = %d, want %d", c.on, c.key, got, c.layer)
		}
		if got := impl.FormatAction(impl.ActionAt(m, c.on, c.key)); got != c.action {
			t.Errorf("ActionAt(m, %d, %d) is %q, want %q", c.on, c.key, got, c.action)
		}
	}
}

// TestLayerInWhichAllActionsPass has the edge case that the document names.
func TestLayerInWhichAllActionsPass(t *testing.T) {
	for layers := 2; layers <= impl.MaxLayers; layers++ {
		for through := 1; through < layers; through++ {
			m := filled(3, layers, letterA)
			for layer := range layers {
				m.Layers[layer][1] = impl.Action{Kind: impl.ActKey, Code: 10 + layer}
			}
			m.Layers[through] = slices.Repeat([]impl.Action{passes}, 3)
			checkRoundTrip(t, m)
			for on := range 16 {
				// The layer never decides, so that it makes no difference whether it is on.
				off := on &^ (1 << through)
				if a, b := impl.LayerAt(m, on, 1), impl.LayerAt(m, off, 1); a != b || a == through {
					t.Errorf("of %d layers, %d passes, but LayerAt is %d with it and %d without it", layers, through, a, b)
				}
				if a, b := impl.ActionAt(m, on, 1), impl.ActionAt(m, off, 1); a != b || a == passes {
					t.Errorf("of %d layers, %d passes, but ActionAt is %v with it and %v without it", layers, through, a, b)
				}
			}
		}
		// All layers above layer 0 pass.
		m := filled(2, layers, passes)
		m.Layers[0] = []impl.Action{letterA, {Kind: impl.ActTo, N: layers - 1}}
		checkRoundTrip(t, m)
		for _, on := range masksOn() {
			for key, a := range m.Layers[0] {
				if got := impl.LayerAt(m, on, key); got != 0 {
					t.Errorf("LayerAt(%v, %d, %d) = %d, want 0", m, on, key, got)
				}
				if got := impl.ActionAt(m, on, key); got != a {
					t.Errorf("ActionAt(%v, %d, %d) = %v, want %v", m, on, key, got, a)
				}
			}
		}
		// Layer 0 has nothing below it.
		if m := filled(2, layers, passes); impl.IsKeymap(m) {
			t.Errorf("IsKeymap(%v) = true", m)
		}
	}
	if m, ok := impl.ParseKeymap("a b | pass pass"); !ok || !sameKeymap(m, mapOf(t, "a b", "pass pass")) {
		t.Errorf("a layer in which all actions pass is read as %v, %v", m, ok)
	}
	if m, ok := impl.SetAction(mapOf(t, "a", "b"), 1, 0, passes); !ok || impl.FormatKeymap(m) != "a | pass" {
		t.Errorf("a layer is made to pass: %v, %v", m, ok)
	}
}

func TestNoSuchKey(t *testing.T) {
	for _, m := range validKeymaps(t) {
		for _, key := range append([]int{m.Keys, m.Keys + 1, impl.MaxMapKeys, 256, 1 << 32}, noNumbers...) {
			for _, on := range []int{0, 2, 15, -1} {
				if got := impl.LayerAt(m, on, key); got != -1 {
					t.Errorf("LayerAt(%v, %d, %d) = %d, want -1", m, on, key, got)
				}
				if got := impl.ActionAt(m, on, key); got != (impl.Action{}) {
					t.Errorf("ActionAt(%v, %d, %d) = %v, want the zero value", m, on, key, got)
				}
			}
		}
	}
}

func TestKeymapsThatAreNotValid(t *testing.T) {
	for _, m := range badKeymaps(t) {
		for _, key := range []int{math.MinInt, -1, 0, 1, 2, 3, 31, 32, math.MaxInt} {
			for _, on := range []int{0, 1, 2, 15, -1} {
				if got := impl.LayerAt(m, on, key); got != -1 {
					t.Errorf("LayerAt(%v, %d, %d) = %d, want -1", m, on, key, got)
				}
				if got := impl.ActionAt(m, on, key); got != (impl.Action{}) {
					t.Errorf("ActionAt(%v, %d, %d) = %v, want the zero value", m, on, key, got)
				}
			}
			for _, layer := range []int{-1, 0, 1, 3, 4} {
				checkNotSet(t, m, layer, key, letterA)
			}
		}
		if got := impl.FormatKeymap(m); got != "" {
			t.Errorf("FormatKeymap(%v) = %q, want none", m, got)
		}
		if got := impl.PackKeymap(m); len(got) != 0 {
			t.Errorf("PackKeymap(%v) = %v, want none", m, got)
		}
	}
}

func checkNotSet(t *testing.T, m impl.Keymap, layer int, key int, a impl.Action) {
	t.Helper()
	if got, ok := impl.SetAction(m, layer, key, a); ok || !isZeroKeymap(got) {
		t.Errorf("SetAction(%v, %d, %d, %v) = %v, %v, want the zero value and false", m, layer, key, a, got, ok)
	}
}

func TestSetAction(t *testing.T) {
	a, b := impl.Action{Kind: impl.ActKey, Code: 26}, impl.Action{Kind: impl.ActModTap, Code: 9, Mods: 5}
	for _, m := range validKeymaps(t)[:100] {
		for layer := range m.Layers {
			for key := range m.Keys {
				for _, action := range []impl.Action{a, b, {}, {Kind: impl.ActMacro, N: 3}, m.Layers[layer][key]} {
					want := copyOf(m)
					want.Layers[layer][key] = action
					got, ok := impl.SetAction(m, layer, key, action)
					if !ok || !sameKeymap(got, want) {
						t.Fatalf("SetAction(%v, %d, %d, %v) = %v, %v", m, layer, key, action, got, ok)
					}
				}
			}
		}
	}
}

func TestSetActionOfEachAction(t *testing.T) {
	all := sortedActions()
	for layers := 1; layers <= impl.MaxLayers; layers++ {
		m := filled(3, layers, letterA)
		for layer := range layers {
			for _, a := range all {
				if layersNeeded(a) > layers || layer == 0 && a == passes {
					checkNotSet(t, m, layer, 2, a)
					continue
				}
				got, ok := impl.SetAction(m, layer, 2, a)
				if !ok || got.Layers[layer][2] != a || got.Layers[layer][1] != letterA {
					t.Errorf("SetAction(%v, %d, 2, %v) = %v, %v", m, layer, a, got, ok)
				}
			}
		}
	}
	for _, a := range badActions() {
		checkNotSet(t, filled(3, 2, letterA), 0, 0, a)
		checkNotSet(t, filled(3, 2, letterA), 1, 2, a)
	}
}

func TestSetActionRejects(t *testing.T) {
	for _, m := range validKeymaps(t) {
		for _, layer := range append([]int{len(m.Layers), len(m.Layers) + 1, 4, 256, 1 << 32}, noNumbers...) {
			checkNotSet(t, m, layer, 0, letterA)
		}
		for _, key := range append([]int{m.Keys, m.Keys + 1, 32, 256, 1 << 32}, noNumbers...) {
			checkNotSet(t, m, 0, key, letterA)
			checkNotSet(t, m, len(m.Layers)-1, key, letterA)
		}
	}
	// Keymaps that are not valid, but would be with the action.
	checkNotSet(t, mapOf(t, "pass"), 0, 0, letterA)
	checkNotSet(t, mapOf(t, "mo:1"), 0, 0, letterA)
	checkNotSet(t, mapOf(t, "a", "mo:2"), 1, 0, letterA)
	checkNotSet(t, impl.Keymap{Keys: 1, Layers: [][]impl.Action{{{Kind: 77}}}}, 0, 0, letterA)
	checkNotSet(t, impl.Keymap{Keys: 1, Layers: [][]impl.Action{{}}}, 0, 0, letterA)
}

func TestSetActionChangesNoArgument(t *testing.T) {
	// One array has all actions, in layers whose unused capacity reaches into the next ones.
	array := slices.Repeat([]impl.Action{letterA}, 12)
	layers := [][]impl.Action{array[0:3], array[3:6], array[0:3], array[6:9], array[9:12]}
	m := impl.Keymap{Keys: 3, Layers: layers[:4]}
	z := impl.Action{Kind: impl.ActKey, Code: 26}
	got, ok := impl.SetAction(m, 2, 1, z)
	if !ok || !sameKeymap(m, filled(3, 4, letterA)) || !slices.Equal(array, slices.Repeat([]impl.Action{letterA}, 12)) {
		t.Fatalf("after SetAction = %v, %v, the argument is %v, and its array %v", got, ok, m, array)
	}
	if &layers[4][0] != &array[9] {
		t.Error("the unused capacity of the layers is changed")
	}
	// Layers 0 and 2 of the argument are the same memory; those of the result are not.
	if got.Layers[0][1] != letterA || got.Layers[2][1] != z {
		t.Errorf("SetAction of layer 2 = %v", got)
	}
	checkOwnMemory(t, got, func() { array[0], array[3], array[6] = z, z, z })
}

// checkOwnMemory checks that a keymap stays as it is while an argument is changed, and each layer while the others are.
func checkOwnMemory(t *testing.T, m impl.Keymap, change func()) {
	t.Helper()
	before := copyOf(m)
	change()
	if !sameKeymap(m, before) {
		t.Errorf("the result shares memory with an argument: it becomes %v, and was %v", m, before)
	}
	for i, layer := range m.Layers {
		full := layer[:cap(layer)]
		for k := range full {
			full[k].Kind = 1000 + i
		}
	}
	for i, layer := range m.Layers {
		for _, a := range layer {
			if a.Kind != 1000+i {
				t.Fatalf("layer %d of the result shares memory with another one: %v", i, m)
			}
		}
	}
}

func TestKeymapResultsAreNewMemory(t *testing.T) {
	for _, m := range validKeymaps(t)[:60] {
		before := copyOf(m)
		b := impl.PackKeymap(m)
		got, ok := impl.UnpackKeymap(b)
		if !ok {
			t.Fatalf("UnpackKeymap(%v) fails", b)
		}
		checkOwnMemory(t, got, func() { clear(b) })
		got, ok = impl.ParseKeymap(impl.FormatKeymap(m))
		if !ok {
			t.Fatalf("ParseKeymap of the format of %v fails", m)
		}
		checkOwnMemory(t, got, func() {})
		if !sameKeymap(m, before) {
			t.Errorf("the argument becomes %v, and was %v", m, before)
		}
	}
	b := append(make([]byte, 0, 20), 2, 1, 32, 1, 0, 32, 2, 0)
	if _, ok := impl.UnpackKeymap(b); !ok || !bytes.Equal(b[:20], []byte{2, 1, 32, 1, 0, 32, 2, 0, 0, 0, 0, 0, 0, 0, 0, 0, 0, 0, 0, 0}) {
		t.Errorf("UnpackKeymap leaves %v of its argument", b[:20])
	}
	first := impl.PackAction(letterA)
	first[0], first[1], first[2] = 9, 9, 9
	if got := impl.PackAction(letterA); !bytes.Equal(got, []byte{32, 1, 0}) {
		t.Errorf("PackAction gives out the same memory again: %v", got)
	}
}

// checkRoundTrip checks that a keymap is valid, and read from its text and bytes as it was.
func checkRoundTrip(t *testing.T, m impl.Keymap) {
	t.Helper()
	if !impl.IsKeymap(m) {
		t.Fatalf("IsKeymap(%v) = false", m)
	}
	s, b := impl.FormatKeymap(m), impl.PackKeymap(m)
	if got, ok := impl.ParseKeymap(s); !ok || !sameKeymap(got, m) {
		t.Errorf("ParseKeymap(%q) = %v, %v, want %v, true", s, got, ok, m)
	}
	if got, ok := impl.UnpackKeymap(b); !ok || !sameKeymap(got, m) {
		t.Errorf("UnpackKeymap(%v) = %v, %v, want %v, true", b, got, ok, m)
	}
}

func TestPromise5OfKeymaps(t *testing.T) {
	texts := textsOfActions()
	for _, m := range validKeymaps(t) {
		checkRoundTrip(t, m)
		var layers []string
		bytesWanted := []byte{byte(m.Keys), byte(len(m.Layers))}
		for _, layer := range m.Layers {
			var row []string
			for _, a := range layer {
				row = append(row, texts[a])
				bytesWanted = append(bytesWanted, byte(16*a.Kind+a.N), byte(a.Code), byte(a.Mods))
			}
			layers = append(layers, strings.Join(row, " "))
		}
		if got, want := impl.FormatKeymap(m), strings.Join(layers, " | "); got != want {
			t.Errorf("FormatKeymap(%v) = %q, want %q", m, got, want)
		}
		if got := impl.PackKeymap(m); !bytes.Equal(got, bytesWanted) {
			t.Errorf("PackKeymap(%v) = %v, want %v", m, got, bytesWanted)
		}
	}
	for _, s := range keymapTexts {
		m, ok := impl.ParseKeymap(s)
		if !ok || !sameKeymap(m, mapOf(t, strings.Split(s, "|")...)) {
			t.Errorf("ParseKeymap(%q) = %v, %v", s, m, ok)
		}
		if got := impl.FormatKeymap(m); got != s {
			t.Errorf("FormatKeymap(%v) = %q, want %q", m, got, s)
		}
	}
}

func TestKeymapOfEachAction(t *testing.T) {
	for a := range textsOfActions() {
		m := filled(2, impl.MaxLayers, letterA)
		m.Layers[2][1] = a
		checkRoundTrip(t, m)
	}
}

// checkNoKeymap checks that a text is not read.
func checkNoKeymap(t *testing.T, s string) {
	t.Helper()
	if got, ok := impl.ParseKeymap(s); ok || !isZeroKeymap(got) {
		t.Errorf("ParseKeymap(%.80q) = %v, %v, want the zero value and false", s, got, ok)
	}
}

func TestParseKeymapRejects(t *testing.T) {
	cases := []string{
		"", " ", "  ", "|", " | ", "| ", " |", "||", " | | ", "\x00", "\xff", "\n", "keys", "Keymap",
		// spaces and bars that are not written so
		" a", "a ", "a  b", " a b", "a b ", "a\tb", "a\nb", "a,b", "a;b", "a\u00a0b", "a b\n", "a b\x00",
		"a|b", "a |b", "a| b", "a  | b", "a |  b", "a | b ", " a | b", "a\t| b", "a || b", "a | | b", "a |  | b", "a || || b", "a | b |", "a | b | ", "| a | b", " | a | b", "a / b", "a \xa6 b",
		// layers with different numbers of keys
		"a b | c", "a | b c", "a | b | c d", "a b | c d | e", "a b | c d e f", "a b c | d e f | g h i | j k",
		// no such actions, keys, layers
		"a | zz", "zz | a", "a b | c A", "a mo:0", "a mo:4", "a macro:4", "a b | c key",
		"pass", "a pass", "pass a", "pass | a", "pass | pass", "a pass | b c",
		"mo:1", "tg:1", "to:1", "1/a", "a mo:2 | b pass", "a | tg:2", "a | to:3", "2/a | b", "a | b | 3/c",
		"a | b | c | d | e",
		strings.Repeat("a ", impl.MaxMapKeys) + "a",
		strings.Repeat("a ", impl.MaxMapKeys) + "a | " + strings.Repeat("b ", impl.MaxMapKeys) + "b",
		strings.Repeat("a ", 5000), strings.Repeat("a | ", 5000), strings.Repeat(" ", 5000), strings.Repeat("|", 5000), strings.Repeat(" | ", 5000),
		"0101200100", "a b | c pass | ", "[a b]", "a b\r\n",
	}
	for _, s := range cases {
		checkNoKeymap(t, s)
	}
}

// readKeymap reads a text by the rules of the document alone: the table of actions and the words of the text.
func readKeymap(actions map[string]impl.Action, s string) (impl.Keymap, bool) {
	var m impl.Keymap
	var layer []impl.Action
	// The last layer ends as if there was a bar behind it.
	for _, word := range append(strings.Split(s, " "), "|") {
		if word != "|" {
			a, ok := actions[word]
			if !ok {
				return impl.Keymap{}, false
			}
			layer = append(layer, a)
			continue
		}
		if len(layer) == 0 {
			return impl.Keymap{}, false
		}
		m.Layers = append(m.Layers, layer)
		layer = nil
	}
	m.Keys = len(m.Layers[0])
	return m, isKeymap(m)
}

// isKeymap supposes that all actions are valid.
func isKeymap(m impl.Keymap) bool {
	if m.Keys < 1 || m.Keys > 32 || len(m.Layers) < 1 || len(m.Layers) > 4 || slices.Contains(m.Layers[0], passes) {
		return false
	}
	for _, layer := range m.Layers {
		tooHigh := func(a impl.Action) bool { return layersNeeded(a) > len(m.Layers) }
		if len(layer) != m.Keys || slices.ContainsFunc(layer, tooHigh) {
			return false
		}
	}
	return true
}

// checkKeymapText checks that a text is read if and only if it is the format of a keymap.
func checkKeymapText(t *testing.T, actions map[string]impl.Action, s string) bool {
	t.Helper()
	want, ok := readKeymap(actions, s)
	if !ok {
		checkNoKeymap(t, s)
		return false
	}
	if got, ok := impl.ParseKeymap(s); !ok || !sameKeymap(got, want) {
		t.Fatalf("ParseKeymap(%q) = %v, %v, want %v, true", s, got, ok, want)
	}
	if got := impl.FormatKeymap(want); got != s {
		t.Fatalf("FormatKeymap(%v) = %q, want %q", want, got, s)
	}
	return true
}

func TestParseKeymapReadsNothingElse(t *testing.T) {
	// Every text of up to six of these words is read as its keymap or not at all.
	words := []string{"a", "pass", "mo:1", "to:2", "|", " "}
	actions := actionsOfTexts()
	read := 0
	var check func(s string, n int)
	check = func(s string, n int) {
		if checkKeymapText(t, actions, s) {
			read++
		}
		for i := 0; i < len(words) && n < 6; i++ {
			check(s+words[i], n+1)
			check(s+" "+words[i], n+1)
		}
	}
	for _, word := range words {
		check(word, 1)
	}
	if read < 100 {
		t.Errorf("only %d formats were met", read)
	}
}

func TestParseKeymapOfChangedFormats(t *testing.T) {
	actions := actionsOfTexts()
	for _, s := range keymapTexts {
		for i := range len(s) + 1 {
			for _, c := range []string{"", " ", "|", " |", "| ", " | ", " a", "a ", "a", "1", ":", "pass ", "\x00", "\xff"} {
				checkKeymapText(t, actions, s[:i]+c+s[i:])
				if i < len(s) {
					checkKeymapText(t, actions, s[:i]+c+s[i+1:])
				}
			}
		}
	}
}

func TestPackAction(t *testing.T) {
	cases := []struct {
		action string
		want   []byte
	}{
		{"none", []byte{0, 0, 0}},
		{"pass", []byte{16, 0, 0}},
		{"a", []byte{32, 1, 0}},
		{"S-", []byte{32, 0, 2}},
		{"CSAG-f9", []byte{32, 56, 15}},
		{"mo:1", []byte{49, 0, 0}},
		{"tg:3", []byte{67, 0, 0}},
		{"to:0", []byte{80, 0, 0}},
		{"to:3", []byte{83, 0, 0}},
		{"C/z", []byte{96, 26, 1}},
		{"2/space", []byte{114, 41, 0}},
		{"once:G", []byte{128, 0, 8}},
		{"macro:2", []byte{146, 0, 0}},
		{"caps", []byte{160, 0, 0}},
	}
	actions := actionsOfTexts()
	for _, c := range cases {
		if got := impl.PackAction(actions[c.action]); !bytes.Equal(got, c.want) {
			t.Errorf("PackAction of %s = %v, want %v", c.action, got, c.want)
		}
		if got, ok := impl.UnpackAction(c.want); !ok || got != actions[c.action] {
			t.Errorf("UnpackAction(%v) = %v, %v, want %s", c.want, got, ok, c.action)
		}
	}
	for a := range textsOfActions() {
		b := impl.PackAction(a)
		if got, ok := impl.UnpackAction(b); len(b) != 3 || !ok || got != a {
			t.Errorf("UnpackAction(%v) = %v, %v, want %v, true", b, got, ok, a)
		}
	}
	for _, a := range badActions() {
		if got := impl.PackAction(a); len(got) != 0 {
			t.Errorf("PackAction(%v) = %v, want none", a, got)
		}
	}
}

func TestUnpackActionOfAllBytes(t *testing.T) {
	texts := textsOfActions()
	read := 0
	b := make([]byte, 3)
	for n := range 1 << 24 {
		b[0], b[1], b[2] = byte(n>>16), byte(n>>8), byte(n)
		a, ok := impl.UnpackAction(b)
		if !ok {
			if a != (impl.Action{}) {
				t.Fatalf("UnpackAction(%v) = %v, false", b, a)
			}
			continue
		}
		read++
		if _, known := texts[a]; !known || a != (impl.Action{Kind: n >> 20, N: n >> 16 % 16, Code: n >> 8 % 256, Mods: n % 256}) {
			t.Fatalf("UnpackAction(%v) = %v, true", b, a)
		}
	}
	if read != len(texts) {
		t.Errorf("%d actions are read, want %d", read, len(texts))
	}
}

func TestUnpackActionRejects(t *testing.T) {
	for _, b := range [][]byte{
		nil, {}, {0}, {32}, {0, 0}, {32, 1}, {0, 0, 0, 0}, {32, 1, 0, 0}, {32, 1, 0, 32, 1, 0}, make([]byte, 1000),
		// numbers that a kind does not have
		{1, 0, 0}, {17, 0, 0}, {33, 1, 0}, {48, 0, 0}, {52, 0, 0}, {84, 0, 0}, {148, 0, 0}, {112, 1, 0}, {129, 0, 1}, {161, 0, 0}, {176, 0, 0}, {255, 255, 255},
		{32, 0, 0}, {32, 57, 0}, {32, 1, 16}, {32, 255, 0}, {32, 0, 255}, {96, 0, 1}, {96, 1, 0}, {113, 0, 0}, {113, 1, 1}, {128, 0, 0}, {128, 1, 1}, {0, 1, 0}, {0, 0, 1},
	} {
		if got, ok := impl.UnpackAction(b); ok || got != (impl.Action{}) {
			t.Errorf("UnpackAction(%v) = %v, %v, want the zero value and false", b, got, ok)
		}
	}
}

func TestPackKeymap(t *testing.T) {
	cases := []struct{ s, digits string }{
		{"a", "0101200100"},
		{"none", "0101000000"},
		{"a mo:1 | b pass", "0202200100310000200200100000"},
		{"a | S/b | 2/c | macro:3", "0104200100600202720300930000"},
		{"once:C caps to:0", "0301800001a00000500000"},
	}
	for _, c := range cases {
		m := mapOf(t, strings.Split(c.s, "|")...)
		b := impl.PackKeymap(m)
		if got := impl.FormatHex(b); got != c.digits {
			t.Errorf("PackKeymap of %s = %s, want %s", c.s, got, c.digits)
		}
		if got, ok := impl.UnpackKeymap(b); !ok || !sameKeymap(got, m) {
			t.Errorf("UnpackKeymap(%s) = %v, %v, want %s", c.digits, got, ok, c.s)
		}
	}
}

// unpackTable reads bytes by the rules of the document alone: the table of actions and where their bytes are.
func unpackTable(texts map[impl.Action]string, b []byte) (impl.Keymap, bool) {
	if len(b) < 2 || len(b) != 2+3*int(b[0])*int(b[1]) {
		return impl.Keymap{}, false
	}
	m := filled(int(b[0]), int(b[1]), impl.Action{})
	for i := 2; i < len(b); i += 3 {
		a := impl.Action{Kind: int(b[i] >> 4), N: int(b[i] & 15), Code: int(b[i+1]), Mods: int(b[i+2])}
		if _, ok := texts[a]; !ok {
			return impl.Keymap{}, false
		}
		place := (i - 2) / 3
		m.Layers[place/m.Keys][place%m.Keys] = a
	}
	return m, isKeymap(m)
}

// checkKeymapBytes checks that bytes are read if and only if they are those of a keymap.
func checkKeymapBytes(t *testing.T, texts map[impl.Action]string, b []byte) {
	t.Helper()
	want, wantOK := unpackTable(texts, b)
	got, ok := impl.UnpackKeymap(b)
	if !wantOK {
		want = impl.Keymap{}
	}
	if ok != wantOK || !sameKeymap(got, want) {
		t.Fatalf("UnpackKeymap(%v) = %v, %v, want %v, %v", b, got, ok, want, wantOK)
	}
	if ok && !bytes.Equal(impl.PackKeymap(got), b) {
		t.Fatalf("PackKeymap(%v) = %v, want %v", got, impl.PackKeymap(got), b)
	}
}

func TestUnpackKeymapReadsNothingElse(t *testing.T) {
	texts := textsOfActions()
	for _, m := range validKeymaps(t)[:30] {
		b := impl.PackKeymap(m)
		for i := range b {
			for x := range 256 {
				changed := slices.Clone(b)
				changed[i] = byte(x)
				checkKeymapBytes(t, texts, changed)
			}
			checkKeymapBytes(t, texts, b[:i])
			checkKeymapBytes(t, texts, slices.Delete(slices.Clone(b), i, i+1))
			checkKeymapBytes(t, texts, slices.Insert(slices.Clone(b), i, 0))
		}
		checkKeymapBytes(t, texts, append(slices.Clone(b), 0))
		checkKeymapBytes(t, texts, append(slices.Clone(b), 32, 1, 0))
	}
	// Every size, with as many bytes as it needs, all of them of the letter a or of none.
	for keys := range 256 {
		for _, layers := range []int{0, 1, 2, 3, 4, 5, 8, 32, 255} {
			head := []byte{byte(keys), byte(layers)}
			checkKeymapBytes(t, texts, append(head, bytes.Repeat([]byte{32, 1, 0}, keys*layers)...))
			checkKeymapBytes(t, texts, append(head, make([]byte, 3*keys*layers)...))
			checkKeymapBytes(t, texts, append(head, 32, 1, 0))
			checkKeymapBytes(t, texts, head)
		}
	}
}

func TestUnpackKeymapRejects(t *testing.T) {
	for _, b := range [][]byte{
		nil, {}, {0}, {1}, {0, 0}, {1, 0}, {0, 1}, {1, 1}, {255, 255}, {0, 0, 32, 1, 0}, {0, 4}, {4, 0},
		{1, 1, 32, 1}, {1, 1, 32, 1, 0, 0}, {1, 1, 32, 1, 0, 32, 1, 0}, {2, 1, 32, 1, 0}, {1, 2, 32, 1, 0},
		// layer 0 passes, and layers that are not there
		{1, 1, 16, 0, 0}, {1, 2, 16, 0, 0, 32, 1, 0}, {2, 1, 32, 1, 0, 16, 0, 0},
		{1, 1, 49, 0, 0}, {1, 1, 65, 0, 0}, {1, 1, 81, 0, 0}, {1, 1, 113, 1, 0}, {1, 2, 32, 1, 0, 50, 0, 0}, {1, 2, 114, 1, 0, 32, 1, 0},
		{1, 1, 32, 57, 0}, {1, 1, 176, 0, 0}, {1, 1, 0, 0, 1},
	} {
		if got, ok := impl.UnpackKeymap(b); ok || !isZeroKeymap(got) {
			t.Errorf("UnpackKeymap(%v) = %v, %v, want the zero value and false", b, got, ok)
		}
	}
}

func TestKeymapsStayAsTheyAre(t *testing.T) {
	for _, m := range append(validKeymaps(t)[:60], badKeymaps(t)...) {
		before := copyOf(m)
		first := []any{impl.IsKeymap(m), impl.LayerAt(m, 6, 0), impl.ActionAt(m, 6, 0), impl.FormatKeymap(m), impl.PackKeymap(m)}
		impl.SetAction(m, 0, 0, impl.Action{Kind: impl.ActCaps})
		second := []any{impl.IsKeymap(m), impl.LayerAt(m, 6, 0), impl.ActionAt(m, 6, 0), impl.FormatKeymap(m), impl.PackKeymap(m)}
		if !sameKeymap(m, before) || !reflect.DeepEqual(first, second) {
			t.Errorf("%v becomes %v", before, m)
		}
	}
}
