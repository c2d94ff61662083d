package tests

import (
	"fmt"
	"math"
	"math/rand"
	"reflect"
	"slices"
	"strings"
	"testing"

	"loop.example/g03414/impl"
)

// maskOf returns the mask of these keys, written with commas between them.
func maskOf(t *testing.T, text string) int {
	t.Helper()
	mask := 0
	for _, part := range strings.Split(text, ",") {
		var key int
		if n, err := fmt.Sscanf(part, "%d", &key); n != 1 || err != nil {
			t.Fatalf("%q is no key", part)
		}
		mask |= 1 << key
	}
	return mask
}

// combosOf reads combinations: 0,1=24 has the switches 0 and 1 and the extra key 24.
func combosOf(t *testing.T, text string) []impl.Combo {
	t.Helper()
	var l []impl.Combo
	for _, part := range strings.Fields(text) {
		keys, out, ok := strings.Cut(part, "=")
		c := impl.Combo{Keys: maskOf(t, keys)}
		if n, err := fmt.Sscanf(out, "%d", &c.Out); !ok || n != 1 || err != nil {
			t.Fatalf("%q is no combination", part)
		}
		l = append(l, c)
	}
	return l
}

func combinerOf(t *testing.T, combos string, term int) impl.Combiner {
	t.Helper()
	return newCombiner(t, combosOf(t, combos), term)
}

func newCombiner(t *testing.T, l []impl.Combo, term int) impl.Combiner {
	t.Helper()
	c, ok := impl.NewCombiner(l, term)
	if !ok || !sameCombiner(c, impl.Combiner{Combos: l, Term: term}) {
		t.Fatalf("NewCombiner(%v, %d) = %v, %v", l, term, c, ok)
	}
	return c
}

func sameCombiner(a impl.Combiner, b impl.Combiner) bool {
	return slices.Equal(a.Combos, b.Combos) && a.Term == b.Term && slices.Equal(a.Queue, b.Queue) &&
		a.Now == b.Now && a.Clock == b.Clock && a.Down == b.Down && slices.Equal(a.Active, b.Active)
}

func isZeroCombiner(c impl.Combiner) bool { return sameCombiner(c, impl.Combiner{}) }

func copyOfCombiner(c impl.Combiner) impl.Combiner {
	c.Combos, c.Queue, c.Active = slices.Clone(c.Combos), slices.Clone(c.Queue), slices.Clone(c.Active)
	return c
}

func textOfEvents(l []impl.Event) string {
	var parts []string
	for _, e := range l {
		sign := "-"
		if e.Down {
			sign = "+"
		}
		parts = append(parts, fmt.Sprint(e.Time, sign, e.Key))
	}
	return strings.Join(parts, " ")
}

// keysIn returns the keys of a mask, and one that is no switch if it has more than these.
func keysIn(mask int) []int {
	var keys []int
	for key := range 24 {
		if mask>>key&1 == 1 {
			keys = append(keys, key)
			mask -= 1 << key
		}
	}
	if mask != 0 {
		keys = append(keys, 99)
	}
	return keys
}

// stateOfCombiner tells which events wait, which switches are down for themselves, and of each combination
// the switches that are left: in round brackets if it is open, and in square ones if not.
func stateOfCombiner(c impl.Combiner) string {
	textOfKeys := func(mask int) string {
		return strings.Trim(strings.ReplaceAll(fmt.Sprint(keysIn(mask)), " ", ","), "[]")
	}
	var parts []string
	if len(c.Queue) > 0 {
		parts = append(parts, textOfEvents(c.Queue))
	}
	if c.Down != 0 {
		parts = append(parts, "down:"+textOfKeys(c.Down))
	}
	for _, a := range c.Active {
		brackets := "[]"
		if a.Open {
			brackets = "()"
		}
		parts = append(parts, fmt.Sprint(a.Out, brackets[:1], textOfKeys(a.Left), brackets[1:]))
	}
	return strings.Join(parts, " ")
}

func isSwitchByTheText(e impl.Event) bool { return isEventByTheText(e) && e.Key < 24 }

func isCombosByTheText(l []impl.Combo) bool {
	if len(l) > 8 {
		return false
	}
	for i, c := range l {
		keys := keysIn(c.Keys)
		if len(keys) < 2 || len(keys) > 4 || slices.Contains(keys, 99) || c.Out < 24 || c.Out > 31 {
			return false
		}
		for _, other := range l[:i] {
			if other.Keys == c.Keys || other.Out == c.Out {
				return false
			}
		}
	}
	return true
}

// isCombinerByTheText counts for each switch how often it is down.
func isCombinerByTheText(c impl.Combiner) bool {
	if !isCombosByTheText(c.Combos) || c.Term < 1 || c.Term > 200 || c.Now < 0 || c.Now > 1000000 || c.Clock < 0 || c.Clock > c.Now || len(c.Queue) > 64 {
		return false
	}
	down := map[int]int{}
	for _, key := range keysIn(c.Down) {
		down[key]++
	}
	outs := map[int]int{}
	for _, a := range c.Active {
		at := slices.IndexFunc(c.Combos, func(x impl.Combo) bool { return x.Out == a.Out })
		outs[a.Out]++
		if at < 0 || outs[a.Out] > 1 || a.Left == 0 || a.Open != (a.Left == c.Combos[at].Keys) {
			return false
		}
		for _, key := range keysIn(a.Left) {
			if !slices.Contains(keysIn(c.Combos[at].Keys), key) {
				return false
			}
			down[key]++
		}
	}
	for key, n := range down {
		if n > 1 || key > 23 {
			return false
		}
	}
	for i, e := range c.Queue {
		if !isSwitchByTheText(e) || e.Time > c.Now || i > 0 && e.Time < c.Queue[i-1].Time || e.Down == (down[e.Key] == 1) {
			return false
		}
		down[e.Key] = 1 - down[e.Key]
	}
	return true
}

// combosWithAll returns the combinations that have all switches of these events.
func combosWithAll(l []impl.Combo, events []impl.Event) []impl.Combo {
	var with []impl.Combo
	for _, c := range l {
		if !slices.ContainsFunc(events, func(e impl.Event) bool { return !slices.Contains(keysIn(c.Keys), e.Key) }) {
			with = append(with, c)
		}
	}
	return with
}

// outByTheText returns the Out of the combination that is the set of the switches of these events, and -1 if there is none.
func outByTheText(l []impl.Combo, events []impl.Event) int {
	mask := 0
	for _, e := range events {
		mask |= 1 << e.Key
	}
	for _, c := range l {
		if c.Keys == mask {
			return c.Out
		}
	}
	return -1
}

// matchByTheText asks for each number of events anew whether this many are taken.
func matchByTheText(l []impl.Combo, term int, queue []impl.Event, now int) (int, int, int) {
	if !isCombosByTheText(l) || term < 1 || term > 200 || len(queue) == 0 || !isSwitchByTheText(queue[0]) || !queue[0].Down {
		return 0, 0, -1
	}
	if len(combosWithAll(l, queue[:1])) == 0 {
		return 1, queue[0].Time, -1
	}
	end := queue[0].Time + term
	for n := 1; ; n++ {
		out := outByTheText(l, queue[:n])
		if out >= 0 && len(combosWithAll(l, queue[:n])) == 1 {
			return n, queue[n-1].Time, out
		}
		known := end
		switch {
		case n == len(queue) && now < end:
			return 0, 0, -1
		case n == len(queue):
		case !isSwitchByTheText(queue[n]):
			return 0, 0, -1
		case queue[n].Time < end && queue[n].Down && len(combosWithAll(l, queue[:n+1])) > 0:
			continue
		case queue[n].Time < end:
			known = queue[n].Time
		}
		if out < 0 {
			return 1, known, -1
		}
		return n, known, out
	}
}

// performByCombos performs the first event of the queue, and reports whether it can.
func performByCombos(c impl.Combiner) (impl.Combiner, []impl.Event, bool) {
	first := c.Queue[0]
	n, at, out := 1, 0, -1
	if first.Down {
		n, at, out = matchByTheText(c.Combos, c.Term, c.Queue, c.Now)
	}
	if n == 0 {
		return c, nil, false
	}
	c.Clock = max(c.Clock, first.Time, at)
	c.Queue = c.Queue[n:]
	owner := slices.IndexFunc(c.Active, func(a impl.Active) bool { return slices.Contains(keysIn(a.Left), first.Key) })
	switch {
	case first.Down && out >= 0:
		for _, x := range c.Combos {
			if x.Out == out {
				c.Active = append(slices.Clone(c.Active), impl.Active{Out: out, Left: x.Keys, Open: true})
			}
		}
		return c, []impl.Event{down(c.Clock, out)}, true
	case first.Down:
		c.Down += 1 << first.Key
		return c, []impl.Event{down(c.Clock, first.Key)}, true
	case owner < 0:
		c.Down -= 1 << first.Key
		return c, []impl.Event{up(c.Clock, first.Key)}, true
	}
	was := c.Active[owner]
	left := was.Left - 1<<first.Key
	c.Active = slices.Clone(c.Active)
	if left == 0 {
		c.Active = slices.Delete(c.Active, owner, owner+1)
	} else {
		c.Active[owner] = impl.Active{Out: was.Out, Left: left}
	}
	if was.Open {
		return c, []impl.Event{up(c.Clock, was.Out)}, true
	}
	return c, nil, true
}

func combineByTheText(c impl.Combiner, l []impl.Event, end int) (impl.Combiner, []impl.Event, bool) {
	if !isCombinerByTheText(c) || end < c.Now || len(l) > 0 && l[0].Time < c.Now {
		return impl.Combiner{}, nil, false
	}
	next := copyOfCombiner(c)
	next.Queue = append(next.Queue, l...)
	next.Now = end
	if !isCombinerByTheText(next) {
		return impl.Combiner{}, nil, false
	}
	var all []impl.Event
	for len(next.Queue) > 0 {
		later, given, ok := performByCombos(next)
		if !ok {
			break
		}
		next, all = later, append(all, given...)
	}
	return next, all, true
}

func checkGiven(t *testing.T, c impl.Combiner, what string, got impl.Combiner, l []impl.Event, ok bool, want impl.Combiner, given []impl.Event, fine bool) {
	t.Helper()
	if ok != fine || !sameCombiner(got, want) || !slices.Equal(l, given) {
		t.Fatalf("%s of %v\n= %v, %s, %v\nwant %v, %s, %v", what, c, got, textOfEvents(l), ok, want, textOfEvents(given), fine)
	}
	if ok && !impl.IsCombiner(got) {
		t.Fatalf("after %s of %v, %v is no combiner", what, c, got)
	}
}

func checkCombine(t *testing.T, c impl.Combiner, l []impl.Event, end int) (impl.Combiner, []impl.Event, bool) {
	t.Helper()
	got, given, ok := impl.CombineEvents(c, l, end)
	want, all, fine := combineByTheText(c, l, end)
	// What is checked is told only where it matters, since this is called very often.
	if ok != fine || !sameCombiner(got, want) || !slices.Equal(given, all) || ok && !impl.IsCombiner(got) {
		checkGiven(t, c, fmt.Sprintf("CombineEvents %v up to %d", l, end), got, given, ok, want, all, fine)
	}
	return got, given, ok
}

// combineAll gives events one by one and waits until the end.
func combineAll(t *testing.T, c impl.Combiner, l []impl.Event, end int) (impl.Combiner, []impl.Event) {
	t.Helper()
	var all []impl.Event
	for _, e := range l {
		next, given, ok := impl.CombineEvent(c, e)
		if !ok {
			t.Fatalf("CombineEvent(%v, %v) fails", c, e)
		}
		c, all = next, append(all, given...)
	}
	next, given, ok := impl.CombineWait(c, end)
	if !ok {
		t.Fatalf("CombineWait(%v, %d) fails", c, end)
	}
	return next, append(all, given...)
}

// combineByMilliseconds waits until each millisecond, and gives the events of this time before that or behind it.
func combineByMilliseconds(t *testing.T, c impl.Combiner, l []impl.Event, end int, waitFirst bool) (impl.Combiner, []impl.Event) {
	t.Helper()
	var all []impl.Event
	take := func(next impl.Combiner, given []impl.Event, ok bool) {
		if !ok {
			t.Fatalf("at %d, what follows %v fails", c.Now, c)
		}
		c, all = next, append(all, given...)
	}
	for time := c.Now; time <= end; time++ {
		if waitFirst {
			take(impl.CombineWait(c, time))
		}
		for len(l) > 0 && l[0].Time == time {
			take(impl.CombineEvent(c, l[0]))
			l = l[1:]
		}
		take(impl.CombineWait(c, time))
	}
	return c, all
}

// checkCombinedOnTheWay checks that the same is found and given out when the events come one by one.
func checkCombinedOnTheWay(t *testing.T, c impl.Combiner, l []impl.Event, end int) {
	t.Helper()
	want, given, ok := impl.CombineEvents(c, l, end)
	if !ok {
		t.Fatalf("CombineEvents(%v, %v, %d) fails", c, l, end)
	}
	got, fed := combineAll(t, c, l, end)
	checkGiven(t, c, fmt.Sprintf("CombineEvent %v up to %d", l, end), got, fed, true, want, given, true)
	if end-c.Now > 60 {
		return
	}
	for _, waitFirst := range []bool{false, true} {
		got, fed = combineByMilliseconds(t, c, l, end, waitFirst)
		checkGiven(t, c, fmt.Sprintf("CombineEvent %v by milliseconds up to %d", l, end), got, fed, true, want, given, true)
	}
}

// comboCase has events, and what follows up to the end from the text of the document.
type comboCase struct {
	events       string
	end          int
	given, state string
}

func checkCombos(t *testing.T, combos string, term int, cases []comboCase) {
	t.Helper()
	c := combinerOf(t, combos, term)
	for _, x := range cases {
		l := eventsOf(t, x.events)
		got, given, ok := checkCombine(t, c, l, x.end)
		if text := textOfEvents(given); !ok || text != x.given {
			t.Errorf("%q with %d and %q up to %d gives %q, %v, want %q", combos, term, x.events, x.end, text, ok, x.given)
		}
		if state := stateOfCombiner(got); state != x.state {
			t.Errorf("%q with %d and %q up to %d has become %q, want %q", combos, term, x.events, x.end, state, x.state)
		}
		checkCombinedOnTheWay(t, c, l, x.end)
	}
}

func TestOneCombination(t *testing.T) {
	checkCombos(t, "0,1=24", 5, []comboCase{
		{"", 0, "", ""},
		{"", 1000, "", ""},
		// together
		{"0+0 0+1", 0, "0+24", "24(0,1)"},
		{"0+0 3+1", 3, "3+24", "24(0,1)"},
		{"0+1 3+0", 3, "3+24", "24(0,1)"},
		{"0+0 4+1", 4, "4+24", "24(0,1)"},
		{"0+0 4+1", 50, "4+24", "24(0,1)"},
		{"7+0 11+1", 11, "11+24", "24(0,1)"},
		// not together
		{"0+0", 4, "", "0+0"},
		{"0+0", 5, "5+0", "down:0"},
		{"0+0", 6, "5+0", "down:0"},
		{"0+1", 4, "", "0+1"},
		{"0+1", 5, "5+1", "down:1"},
		{"0+0 5+1", 5, "5+0", "5+1 down:0"},
		{"0+0 5+1", 9, "5+0", "5+1 down:0"},
		{"0+0 5+1", 10, "5+0 10+1", "down:0,1"},
		{"0+0 6+1", 6, "5+0", "6+1 down:0"},
		{"0+0 6+1", 11, "5+0 11+1", "down:0,1"},
		{"7+0 12+1", 12, "12+0", "12+1 down:0"},
		{"0+0 0-0", 0, "0+0 0-0", ""},
		{"0+0 2-0", 2, "2+0 2-0", ""},
		{"0+0 4-0", 4, "4+0 4-0", ""},
		{"0+0 5-0", 5, "5+0 5-0", ""},
		{"0+0 9-0", 9, "5+0 9-0", ""},
		{"0+0 2-0 3+1", 7, "2+0 2-0", "3+1"},
		{"0+0 2-0 3+1", 8, "2+0 2-0 8+1", "down:1"},
		{"0+0 2-0 3+1 4+0", 4, "2+0 2-0 4+24", "24(0,1)"},
		{"0+0 2-0 2+0 2+1", 2, "2+0 2-0 2+24", "24(0,1)"},
		// another event is between
		{"0+0 2+7", 2, "2+0 2+7", "down:0,7"},
		{"0+0 2+7 3+1", 7, "2+0 2+7", "3+1 down:0,7"},
		{"0+0 2+7 3+1", 8, "2+0 2+7 8+1", "down:0,1,7"},
		{"0+7 1+0 2-7 3+1", 3, "0+7 2+0 2-7", "3+1 down:0"},
		{"0+7 1+0 2-7 3+1", 8, "0+7 2+0 2-7 8+1", "down:0,1"},
		{"0+0 0+7 0-7 0+1", 0, "0+0 0+7 0-7", "0+1 down:0"},
		// other switches go their own way
		{"0+7 1-7", 1, "0+7 1-7", ""},
		{"0+7 1+0 2+1 3-7", 3, "0+7 2+24 3-7", "24(0,1)"},
		{"0+0 2+1 3+7 4+23 5-7", 5, "2+24 3+7 4+23 5-7", "down:23 24(0,1)"},
		// the limits of times
		{"999995+0", 1000000, "1000000+0", "down:0"},
		{"999996+0", 1000000, "", "999996+0"},
		{"999996+0 1000000+1", 1000000, "1000000+24", "24(0,1)"},
		{"1000000+0 1000000+1 1000000-1", 1000000, "1000000+24 1000000-24", "24[0]"},
	})
}

func TestCombinationsGoUp(t *testing.T) {
	checkCombos(t, "0,1=24", 5, []comboCase{
		{"0+0 3+1 9-0", 9, "3+24 9-24", "24[1]"},
		{"0+0 3+1 9-1", 9, "3+24 9-24", "24[0]"},
		{"0+0 3+1 9-0 12-1", 12, "3+24 9-24", ""},
		{"0+0 3+1 9-1 12-0", 12, "3+24 9-24", ""},
		{"0+0 3+1 9-0 9-1", 9, "3+24 9-24", ""},
		{"0+0 3+1 3-0 3-1", 3, "3+24 3-24", ""},
		// a switch goes down again while the other one is left
		{"0+0 3+1 9-0 10+0", 14, "3+24 9-24", "10+0 24[1]"},
		{"0+0 3+1 9-0 10+0", 15, "3+24 9-24 15+0", "down:0 24[1]"},
		{"0+0 3+1 9-0 10+0 16-1", 16, "3+24 9-24 15+0", "down:0"},
		{"0+0 3+1 9-0 10+0 16-0", 16, "3+24 9-24 15+0 16-0", "24[1]"},
		{"0+0 3+1 9-0 10+0 11-0", 11, "3+24 9-24 11+0 11-0", "24[1]"},
		{"0+0 3+1 9-0 10+0 11-1", 11, "3+24 9-24 11+0", "down:0"},
		{"0+0 3+1 9-0 10+0 11-1 12+1", 17, "3+24 9-24 11+0 17+1", "down:0,1"},
		{"0+0 3+1 9-0 10+0 11-1 12-0", 12, "3+24 9-24 11+0 12-0", ""},
		// and again together
		{"0+0 3+1 9-0 12-1 13+1 14+0", 14, "3+24 9-24 14+24", "24(0,1)"},
		{"0+0 0+1 0-1 0-0 0+0 0+1 0-0 0-1", 0, "0+24 0-24 0+24 0-24", ""},
	})
	checkCombos(t, "2,5,9=30", 5, []comboCase{
		{"0+9 1+2", 4, "", "0+9 1+2"},
		{"0+9 1+2", 5, "5+9", "1+2 down:9"},
		{"0+9 1+2", 6, "5+9 6+2", "down:2,9"},
		{"0+9 1+2 4+5", 4, "4+30", "30(2,5,9)"},
		{"0+9 1+2 5+5", 5, "5+9", "1+2 5+5 down:9"},
		{"0+9 1+2 5+5", 6, "5+9 6+2", "5+5 down:2,9"},
		{"0+9 1+2 5+5", 10, "5+9 6+2 10+5", "down:2,5,9"},
		{"0+9 1+2 4+5 6-5", 6, "4+30 6-30", "30[2,9]"},
		{"0+9 1+2 4+5 6-5 7-9", 7, "4+30 6-30", "30[2]"},
		{"0+9 1+2 4+5 6-5 7-9 8-2", 8, "4+30 6-30", ""},
		{"0+9 1+2 4+5 6-5 7+5 8-5", 8, "4+30 6-30 8+5 8-5", "30[2,9]"},
		{"0+9 1+2 4+5 6-5 7-9 8+5 9+9", 12, "4+30 6-30", "8+5 9+9 30[2]"},
		{"0+9 1+2 4+5 6-5 7-9 8+5 9+9", 13, "4+30 6-30 13+5", "9+9 down:5 30[2]"},
		{"0+9 1+2 4+5 6-5 7-9 8+5 9+9", 14, "4+30 6-30 13+5 14+9", "down:5,9 30[2]"},
		{"0+9 1+2 2-2 3+5", 3, "2+9 2+2 2-2", "3+5 down:9"},
	})
	checkCombos(t, "20,21,22,23=24", 1, []comboCase{
		{"0+21 0+20 0+23 0+22", 0, "0+24", "24(20,21,22,23)"},
		{"0+21 0+20 0+23 1+22", 1, "1+21 1+20 1+23", "1+22 down:20,21,23"},
		{"0+21 0+20 0+23 0+22 3-23 4-20 5-21", 5, "0+24 3-24", "24[22]"},
		{"0+21 0+20 0+23 0+22 3-23 4-20 5-21 6-22", 6, "0+24 3-24", ""},
	})
}

func TestCombinationThatIsPartOfAnother(t *testing.T) {
	checkCombos(t, "0,1=24 0,1,2=25", 5, []comboCase{
		{"0+0 1+1", 4, "", "0+0 1+1"},
		{"0+0 1+1", 5, "5+24", "24(0,1)"},
		{"0+0 1+1", 9, "5+24", "24(0,1)"},
		{"0+0 1+1 2+2", 2, "2+25", "25(0,1,2)"},
		{"0+0 1+1 4+2", 4, "4+25", "25(0,1,2)"},
		{"0+0 1+1 5+2", 5, "5+24", "5+2 24(0,1)"},
		{"0+0 1+1 5+2", 10, "5+24 10+2", "down:2 24(0,1)"},
		{"0+0 1+1 6+2", 6, "5+24", "6+2 24(0,1)"},
		{"0+0 4+1 4+2", 4, "4+25", "25(0,1,2)"},
		{"0+0 4+1 5+2", 5, "5+24", "5+2 24(0,1)"},
		// an event that is not collected ends the wait
		{"0+0 1+1 3-0", 3, "3+24 3-24", "24[1]"},
		{"0+0 1+1 3-1", 3, "3+24 3-24", "24[0]"},
		{"0+0 1+1 3-0 4-1", 4, "3+24 3-24", ""},
		{"0+0 1+1 3+7", 3, "3+24 3+7", "down:7 24(0,1)"},
		{"0+0 1+1 5-0", 5, "5+24 5-24", "24[1]"},
		{"0+0 1+1 8-0", 8, "5+24 8-24", "24[1]"},
		// in any order
		{"0+2 1+1 2+0", 2, "2+25", "25(0,1,2)"},
		{"0+1 1+2 2+0", 2, "2+25", "25(0,1,2)"},
		{"0+0 1+2 2+1", 2, "2+25", "25(0,1,2)"},
		// only a part of the greater one
		{"0+0 1+2", 4, "", "0+0 1+2"},
		{"0+0 1+2", 5, "5+0", "1+2 down:0"},
		{"0+0 1+2", 6, "5+0 6+2", "down:0,2"},
		{"0+0 1+2 3-2", 3, "3+0 3+2 3-2", "down:0"},
		{"0+2 1+1", 5, "5+2", "1+1 down:2"},
		{"0+2 1+1", 6, "5+2 6+1", "down:1,2"},
		{"0+2 1+1 5+0", 5, "5+2", "1+1 5+0 down:2"},
		{"0+2 1+1 5+0", 6, "5+2 6+24", "down:2 24(0,1)"},
		{"0+2 1+1 5+0 5-2", 5, "5+2 5+24 5-2", "24(0,1)"},
		// the greater one goes up, and the lesser one goes down while a switch of it is left
		{"0+0 1+1 2+2 6-2", 6, "2+25 6-25", "25[0,1]"},
		{"0+0 1+1 2+2 6-2 7+2", 12, "2+25 6-25 12+2", "down:2 25[0,1]"},
		{"0+0 1+1 2+2 6-2 7-1 8-0", 8, "2+25 6-25", ""},
		{"0+0 1+1 2+2 6-0 7-1 8+1 9+0", 12, "2+25 6-25", "8+1 9+0 25[2]"},
		{"0+0 1+1 2+2 6-0 7-1 8+1 9+0", 13, "2+25 6-25 13+24", "25[2] 24(0,1)"},
		{"0+0 1+1 2+2 6-0 7-1 8+1 9+0 10-2", 10, "2+25 6-25 10+24", "24(0,1)"},
		{"0+0 1+1 2+2 6-0 7-1 8+1 9+0 10-0", 10, "2+25 6-25 10+24 10-24", "25[2] 24[1]"},
	})
	// the order of the list has no part in it
	checkCombos(t, "0,1,2=25 0,1=24", 5, []comboCase{
		{"0+0 1+1", 4, "", "0+0 1+1"},
		{"0+0 1+1", 5, "5+24", "24(0,1)"},
		{"0+0 1+1 2+2", 2, "2+25", "25(0,1,2)"},
		{"0+0 1+1 5+2", 5, "5+24", "5+2 24(0,1)"},
	})
	// between the lesser one and the greater one there is a set that is neither
	checkCombos(t, "0,1=24 0,1,2,3=25", 5, []comboCase{
		{"0+0 1+1", 5, "5+24", "24(0,1)"},
		{"0+0 1+1 2+2 3+3", 3, "3+25", "25(0,1,2,3)"},
		{"0+0 1+1 2+2", 4, "", "0+0 1+1 2+2"},
		{"0+0 1+1 2+2", 5, "5+0", "1+1 2+2 down:0"},
		{"0+0 1+1 2+2", 7, "5+0 6+1 7+2", "down:0,1,2"},
		{"0+0 1+1 2+2 4-2", 4, "4+0 4+1 4+2 4-2", "down:0,1"},
		{"0+0 1+1 2+2 5+3", 5, "5+0", "1+1 2+2 5+3 down:0"},
		{"0+2 1+0 2+1 3+7", 3, "3+2 3+24 3+7", "down:2,7 24(0,1)"},
		{"0+2 1+0 2+1", 5, "5+2", "1+0 2+1 down:2"},
		{"0+2 1+0 2+1", 6, "5+2 6+24", "down:2 24(0,1)"},
	})
	// three of which each is part of the next one
	checkCombos(t, "0,1,2=26 0,1=24 0,1,2,3=25", 5, []comboCase{
		{"0+0 1+1 2-1", 2, "2+24 2-24", "24[0]"},
		{"0+0 1+1 2+2 3-1", 3, "3+26 3-26", "26[0,2]"},
		{"0+0 1+1 2+2", 5, "5+26", "26(0,1,2)"},
		{"0+0 1+1 2+2 3+3", 3, "3+25", "25(0,1,2,3)"},
		{"0+0 1+1 2+3 3+2", 3, "3+25", "25(0,1,2,3)"},
		{"0+0 1+1 2+3", 5, "5+0", "1+1 2+3 down:0"},
		{"0+0 1+1 5+2", 5, "5+24", "5+2 24(0,1)"},
		{"0+0 1+1 4+2 5+3", 5, "5+26", "5+3 26(0,1,2)"},
	})
	// two that are parts of one, and of which the second one is found behind the first switch
	checkCombos(t, "1,2=24 0,1=26 0,1,2=25", 5, []comboCase{
		{"0+0 1+1 2+2", 2, "2+25", "25(0,1,2)"},
		{"0+0 1+1", 5, "5+26", "26(0,1)"},
		{"0+1 1+2", 5, "5+24", "24(1,2)"},
		{"0+0 1+2", 5, "5+0", "1+2 down:0"},
		{"0+0 1+2 5+1", 5, "5+0", "1+2 5+1 down:0"},
		{"0+0 1+2 5+1", 6, "5+0 6+24", "down:0 24(1,2)"},
	})
	checkCombos(t, "1,2=24 0,1,2,3=25", 5, []comboCase{
		{"0+0 1+1 2+2 4-2", 4, "4+0 4+24 4-24", "down:0 24[1]"},
		{"0+0 1+1 2+2", 6, "5+0 6+24", "down:0 24(1,2)"},
		{"0+0 1+1 2+2 3+3", 3, "3+25", "25(0,1,2,3)"},
	})
}

func TestCombinationsWithCommonSwitches(t *testing.T) {
	checkCombos(t, "0,1=24 1,2=25", 5, []comboCase{
		{"0+1 1+0", 1, "1+24", "24(0,1)"},
		{"0+1 1+2", 1, "1+25", "25(1,2)"},
		{"0+0 1+1 2+2", 2, "1+24", "2+2 24(0,1)"},
		{"0+0 1+1 2+2", 7, "1+24 7+2", "down:2 24(0,1)"},
		{"0+0 1+1 2+2 3-1", 3, "1+24 3+2 3-24", "down:2 24[0]"},
		{"0+0 1+2", 1, "1+0", "1+2 down:0"},
		{"0+0 1+2 2+1", 2, "1+0 2+25", "down:0 25(1,2)"},
		{"0+0 1+2 2+1 3-0", 3, "1+0 2+25 3-0", "25(1,2)"},
		{"0+0 1+1 2-1 3+1 4+2", 4, "1+24 2-24 4+25", "24[0] 25(1,2)"},
		{"0+0 1+1 2-1 3+1 4+2 5-0 6-2 7-1", 7, "1+24 2-24 4+25 6-25", ""},
		{"0+0 1+1 2-1 3+1 4+2 5-2 6-0", 6, "1+24 2-24 4+25 5-25", "25[1]"},
	})
	checkCombos(t, "0,1=24 2,3=25", 5, []comboCase{
		{"0+0 1+1 1+2 2+3 3-0 4-2", 4, "1+24 2+25 3-24 4-25", "24[1] 25[3]"},
		{"0+0 1+1 1+2 2+3 3-2 4-3", 4, "1+24 2+25 3-25", "24(0,1)"},
		{"0+0 1+1 1+2 2+3 3-2 4-0 5-3 6-1", 6, "1+24 2+25 3-25 4-24", ""},
		{"0+0 1+2 2+1 3+3", 3, "1+0 2+2 3+1", "3+3 down:0,1,2"},
		{"0+0 1+2 2+3 3+1", 3, "1+0 2+25", "3+1 down:0 25(2,3)"},
		{"0+0 1+2 2+3 3+1", 8, "1+0 2+25 8+1", "down:0,1 25(2,3)"},
	})
	checkCombos(t, "0,1=24 0,2=25 1,2=26 0,1,2=27", 5, []comboCase{
		{"0+0 1+1 2+2", 2, "2+27", "27(0,1,2)"},
		{"0+0 1+1", 5, "5+24", "24(0,1)"},
		{"0+0 1+2", 5, "5+25", "25(0,2)"},
		{"0+2 1+1", 5, "5+26", "26(1,2)"},
		{"0+0 1+2 2-2 3+1 4+2", 8, "2+25 2-25 8+26", "25[0] 26(1,2)"},
	})
	// as many as there may be
	checkCombos(t, "0,1=24 1,2=25 2,3=26 3,4=27 4,5=28 5,6=29 6,7=30 22,23=31", 5, []comboCase{
		{"0+3 1+2 2+6 3+7 4+0 5+22 6+23 7-3 8-23", 8, "1+26 3+30 5+0 6+31 7-26 8-31", "down:0 26[2] 30(6,7) 31[22]"},
	})
}

func TestNoCombinations(t *testing.T) {
	checkCombos(t, "", 5, []comboCase{
		{"0+0", 0, "0+0", "down:0"},
		{"0+0 0+1 2-0 2+23 2-1", 2, "0+0 0+1 2-0 2+23 2-1", "down:23"},
		{"7+0 7-0 1000000+0", 1000000, "7+0 7-0 1000000+0", "down:0"},
	})
}

// The second switch goes down, and the first one up, just before, at and just behind the end of the term.
func TestEndOfTheComboTerm(t *testing.T) {
	pair, both := combosOf(t, "3,9=31"), combosOf(t, "3,9=31 3,4,9=24")
	for term := 1; term <= 200; term++ {
		for _, start := range []int{0, 7, 1000000 - term - 1} {
			end := start + term
			check := func(l []impl.Combo, events []impl.Event, now int, want string) {
				t.Helper()
				c := newCombiner(t, l, term)
				_, given, ok := checkCombine(t, c, events, now)
				if text := textOfEvents(given); !ok || text != want {
					t.Fatalf("with the term %d, %s up to %d gives %q, %v, want %q", term, textOfEvents(events), now, text, ok, want)
				}
				if _, fed := combineAll(t, c, events, now); textOfEvents(fed) != want {
					t.Fatalf("with the term %d, %s up to %d gives on the way %q, want %q", term, textOfEvents(events), now, textOfEvents(fed), want)
				}
				// The time of the last event is waited for before the event is known.
				last := len(events) - 1
				waited, first, _ := impl.CombineEvents(c, events[:last], events[last].Time)
				_, rest, ok := impl.CombineEvents(waited, events[last:], now)
				if text := textOfEvents(append(first, rest...)); !ok || text != want {
					t.Fatalf("with the term %d, after waiting, %s up to %d gives %q, %v, want %q", term, textOfEvents(events), now, text, ok, want)
				}
			}
			check(pair, []impl.Event{down(start, 3)}, end-1, "")
			check(pair, []impl.Event{down(start, 3)}, end, fmt.Sprint(end, "+3"))
			check(pair, []impl.Event{down(start, 3)}, end+1, fmt.Sprint(end, "+3"))
			check(pair, []impl.Event{down(start, 3), down(end-1, 9)}, end-1, fmt.Sprint(end-1, "+31"))
			check(pair, []impl.Event{down(start, 3), down(end, 9)}, end, fmt.Sprint(end, "+3"))
			check(pair, []impl.Event{down(start, 3), down(end+1, 9)}, end+1, fmt.Sprint(end, "+3"))
			check(pair, []impl.Event{down(start, 3), up(end-1, 3)}, end-1, fmt.Sprint(end-1, "+3 ", end-1, "-3"))
			check(pair, []impl.Event{down(start, 3), up(end, 3)}, end, fmt.Sprint(end, "+3 ", end, "-3"))
			check(pair, []impl.Event{down(start, 3), up(end+1, 3)}, end+1, fmt.Sprint(end, "+3 ", end+1, "-3"))
			check(both, []impl.Event{down(start, 3), down(start, 9)}, end-1, "")
			check(both, []impl.Event{down(start, 3), down(start, 9)}, end, fmt.Sprint(end, "+31"))
			check(both, []impl.Event{down(start, 3), down(end-1, 9)}, end-1, "")
			check(both, []impl.Event{down(start, 3), down(end-1, 9)}, end, fmt.Sprint(end, "+31"))
			check(both, []impl.Event{down(start, 3), down(start, 9), down(end-1, 4)}, end-1, fmt.Sprint(end-1, "+24"))
			check(both, []impl.Event{down(start, 3), down(start, 9), down(end, 4)}, end, fmt.Sprint(end, "+31"))
			check(both, []impl.Event{down(start, 3), down(start, 9), down(end+1, 4)}, end+1, fmt.Sprint(end, "+31"))
		}
	}
}

// badCombos are each invalid for one reason.
func badCombos(t *testing.T) [][]impl.Combo {
	var l [][]impl.Combo
	for _, text := range []string{
		// one switch, or five
		"0=24", "23=31", "0,1,2,3,4=24", "19,20,21,22,23=24", "0,1,2,3,4,5=24",
		// what is no switch
		"0,24=24", "24,25=26", "0,31=25", "1,2,32=24", "1,2,62=24", "0,1,2,24=24",
		// no extra key
		"0,1=23", "0,1=0", "0,1=32", "0,1=99",
		// the same switches, or the same key
		"0,1=24 0,1=25", "0,1=24 2,3=24", "0,1=24 0,1=24", "0,1=24 0,2=25 1,2=26 0,1=27", "0,1=24 0,2=25 1,2=26 2,3=24",
		"0,1=24 0,2=25 2,0=26", "2,3=31 0,1=24 0,1,2=31",
		// one bad one among others
		"0,1=24 2=25", "2=25 0,1=24", "0,1=24 2,3=25 4,24=26", "0,1=24 2,3=23 4,5=26",
		// too many
		"0,1=24 0,2=25 0,3=26 0,4=27 0,5=28 0,6=29 0,7=30 0,8=31 0,9=32",
		"0,1=24 0,2=25 0,3=26 0,4=27 0,5=28 0,6=29 0,7=30 0,8=31 0,9=24",
	} {
		l = append(l, combosOf(t, text))
	}
	for _, n := range append([]int{0, 1, 1 << 23, 1 << 24, 1<<24 | 1, 3 << 24, 1<<24 - 1, 31, math.MinInt | 3, -1 << 62}, noNumbers...) {
		l = append(l, []impl.Combo{{Keys: n, Out: 24}}, []impl.Combo{{Keys: 3, Out: 24}, {Keys: n, Out: 25}})
	}
	for _, n := range append([]int{0, 1, 23, 32, 33, 63, 256 + 24}, noNumbers...) {
		l = append(l, []impl.Combo{{Keys: 3, Out: n}}, []impl.Combo{{Keys: 5, Out: 24}, {Keys: 3, Out: n}})
	}
	return append(l, []impl.Combo{{}}, slices.Repeat([]impl.Combo{{}}, 9), slices.Repeat([]impl.Combo{{Keys: 3, Out: 24}}, 100000))
}

// randomCombos are valid combinations of few switches, so that they have many of them in common.
func randomCombos(source *rand.Rand) []impl.Combo {
	switches := source.Perm(24)[:3+source.Intn(4)]
	outs := source.Perm(8)
	var l []impl.Combo
	for i := range 1 + source.Intn(8) {
		keys := 0
		for _, at := range source.Perm(len(switches))[:min(2+source.Intn(3), len(switches))] {
			keys |= 1 << switches[at]
		}
		if !slices.ContainsFunc(l, func(c impl.Combo) bool { return c.Keys == keys }) {
			l = append(l, impl.Combo{Keys: keys, Out: 24 + outs[i]})
		}
	}
	return l
}

func TestIsCombos(t *testing.T) {
	for _, text := range []string{
		"", "0,1=24", "22,23=31", "0,23=24", "0,1,2=24", "0,1,2,3=24", "20,21,22,23=31", "0,1=24 0,1,2=25", "0,1,2=25 0,1=24", "0,1=31 2,3=24",
		"0,1=24 0,2=25 0,3=26 0,4=27 0,5=28 0,6=29 0,7=30 0,8=31",
	} {
		if l := combosOf(t, text); !impl.IsCombos(l) || !isCombosByTheText(l) {
			t.Errorf("IsCombos(%q) = %v", text, impl.IsCombos(l))
		}
	}
	for _, l := range badCombos(t) {
		if impl.IsCombos(l) || isCombosByTheText(l) {
			t.Errorf("IsCombos(%v) = %v", l[:min(len(l), 20)], impl.IsCombos(l))
		}
	}
	source := rand.New(rand.NewSource(111))
	for range 5000 {
		l := randomCombos(source)
		if !impl.IsCombos(l) {
			t.Fatalf("IsCombos(%v) = false", l)
		}
		// A change of one number shows whether what is valid is as the text says.
		at := source.Intn(len(l))
		switch source.Intn(4) {
		case 0:
			l[at].Keys ^= 1 << source.Intn(26)
		case 1:
			l[at].Out = source.Intn(40) - 2
		case 2:
			l[at].Keys = l[source.Intn(len(l))].Keys
		default:
			l = append(l, impl.Combo{Keys: 1<<source.Intn(24) | 1<<source.Intn(24), Out: 24 + source.Intn(8)})
		}
		if got, want := impl.IsCombos(l), isCombosByTheText(l); got != want {
			t.Fatalf("IsCombos(%v) = %v, want %v", l, got, want)
		}
	}
}

// The number of switches counts, wherever they are.
func TestIsCombosOfEachNumberOfSwitches(t *testing.T) {
	for a := range 24 {
		for b := range a {
			for _, c := range []struct {
				keys int
				want bool
			}{
				{1 << a, false}, {1<<a | 1<<b, true}, {1<<a | 1<<b | 1<<((a+1)%24), true},
				{1<<24 - 1 - 1<<a, false}, {1<<a | 1<<b | 1<<24, false}, {1<<a | 1<<b | 1<<31, false}, {-1<<31 | 1<<a | 1<<b, false}, {^(1<<a | 1<<b), false},
			} {
				if got := impl.IsCombos([]impl.Combo{{Keys: c.keys, Out: 27}}); got != c.want {
					t.Errorf("IsCombos of the keys %b = %v", c.keys, got)
				}
			}
		}
	}
	for n := range 25 {
		for at := range 25 - n {
			if got, want := impl.IsCombos([]impl.Combo{{Keys: (1<<n - 1) << at, Out: 31}}), n >= 2 && n <= 4; got != want {
				t.Errorf("IsCombos of %d switches from %d on = %v", n, at, got)
			}
		}
	}
}

func TestNewCombiner(t *testing.T) {
	source := rand.New(rand.NewSource(112))
	for range 500 {
		c := newCombiner(t, randomCombos(source), 1+source.Intn(200))
		if !impl.IsCombiner(c) {
			t.Fatalf("IsCombiner(%v) = false", c)
		}
	}
	for _, term := range []int{1, 2, 199, 200} {
		newCombiner(t, nil, term)
		newCombiner(t, combosOf(t, "0,1=24"), term)
	}
	check := func(l []impl.Combo, term int) {
		t.Helper()
		if c, ok := impl.NewCombiner(l, term); ok || !isZeroCombiner(c) {
			t.Errorf("NewCombiner(%v, %d) = %v, %v", l[:min(len(l), 20)], term, c, ok)
		}
	}
	for _, l := range badCombos(t) {
		check(l, 5)
		check(l, 0)
	}
	for _, term := range append([]int{0, 201, 202, 1000, 256 + 5}, noNumbers...) {
		check(combosOf(t, "0,1=24"), term)
		check(nil, term)
	}
}

// someCombiner has a number other than 0 in each field.
func someCombiner(t *testing.T) impl.Combiner {
	t.Helper()
	return impl.Combiner{
		Combos: combosOf(t, "0,1=24 2,3,4=25 5,6,7,8=31 1,2=26"),
		Term:   10,
		Queue:  eventsOf(t, "20+9 22-9 22+5 25-1"),
		Now:    26,
		Clock:  19,
		Down:   maskOf(t, "10,23"),
		Active: []impl.Active{{Out: 24, Left: maskOf(t, "1")}, {Out: 25, Left: maskOf(t, "2,3,4"), Open: true}},
	}
}

// badCombiners are each invalid for one reason.
func badCombiners(t *testing.T) []impl.Combiner {
	good := someCombiner(t)
	l := []impl.Combiner{{}, {Combos: good.Combos}}
	change := func(to func(c *impl.Combiner)) {
		c := copyOfCombiner(good)
		to(&c)
		l = append(l, c)
	}
	for _, bad := range badCombos(t) {
		l = append(l, impl.Combiner{Combos: bad, Term: 10, Now: 26})
	}
	for _, n := range append([]int{0, 201, 202, 1000}, noNumbers...) {
		change(func(c *impl.Combiner) { c.Term = n })
	}
	for _, n := range append([]int{impl.MaxTime + 1, impl.MaxTime + 1000}, noNumbers...) {
		change(func(c *impl.Combiner) { c.Now = n })
		change(func(c *impl.Combiner) { c.Now, c.Queue, c.Clock = n, nil, 0 })
		change(func(c *impl.Combiner) { c.Clock = n })
	}
	for _, n := range []int{0, 19, 20, 24} {
		change(func(c *impl.Combiner) { c.Now = n })
	}
	change(func(c *impl.Combiner) { c.Clock = 27 })
	change(func(c *impl.Combiner) { c.Clock, c.Queue = 27, nil })
	// Down has what is no switch, or what is left of a combination
	for _, n := range append([]int{1 << 24, 1<<24 | 1<<10, 1 << 31, 1 << 1, 1 << 2, 1 << 3, 1 << 4, 1<<10 | 1<<4}, noNumbers...) {
		change(func(c *impl.Combiner) { c.Down = n })
		change(func(c *impl.Combiner) { c.Down, c.Queue = n, nil })
	}
	for _, n := range append([]int{0, 1, 5, 23, 27, 30, 32, 33}, noNumbers...) {
		change(func(c *impl.Combiner) { c.Active[0].Out = n })
		change(func(c *impl.Combiner) { c.Active[1].Out = n })
		change(func(c *impl.Combiner) { c.Active = []impl.Active{{Out: n}}; c.Queue = nil })
	}
	for _, n := range append([]int{0, 1 << 24, 1 << 31}, noNumbers...) {
		change(func(c *impl.Combiner) { c.Active[0].Left, c.Queue = n, nil })
		change(func(c *impl.Combiner) { c.Active[1].Left, c.Queue = n, nil })
		change(func(c *impl.Combiner) { c.Active[1] = impl.Active{Out: 25, Left: n}; c.Queue = nil })
	}
	one, two := maskOf(t, "1"), maskOf(t, "2")
	for _, active := range [][]impl.Active{
		// a switch of another combination
		{{Out: 24, Left: two}}, {{Out: 24, Left: one | two}}, {{Out: 24, Left: maskOf(t, "0,1,2")}}, {{Out: 24, Left: maskOf(t, "0,1,2"), Open: true}},
		{{Out: 25, Left: maskOf(t, "3,5")}}, {{Out: 31, Left: maskOf(t, "4,5,6,7,8"), Open: true}}, {{Out: 31, Left: maskOf(t, "4,6,7,8"), Open: true}},
		// open without all of them, not open with all of them
		{{Out: 24, Left: one, Open: true}}, {{Out: 24, Left: maskOf(t, "0"), Open: true}}, {{Out: 24, Left: maskOf(t, "0,1")}},
		{{Out: 25, Left: maskOf(t, "2,3"), Open: true}}, {{Out: 25, Left: maskOf(t, "2,3,4")}}, {{Out: 24, Open: true}}, {{Out: 24}},
		// the same one twice
		{{Out: 25, Left: two}, {Out: 25, Left: maskOf(t, "3")}}, {{Out: 24, Left: maskOf(t, "0")}, {Out: 25, Left: two}, {Out: 24, Left: one}},
		// a switch twice
		{{Out: 24, Left: one}, {Out: 26, Left: one}}, {{Out: 26, Left: two}, {Out: 25, Left: maskOf(t, "2,3")}},
		{{Out: 24, Left: maskOf(t, "0,1"), Open: true}, {Out: 26, Left: maskOf(t, "1,2"), Open: true}},
		{{Out: 25, Left: maskOf(t, "3")}, {Out: 26, Left: two}, {Out: 24, Left: maskOf(t, "0,1"), Open: true}, {Out: 31, Left: maskOf(t, "5")}, {Out: 26, Left: one}},
	} {
		change(func(c *impl.Combiner) { c.Active, c.Queue = active, nil })
		change(func(c *impl.Combiner) { c.Active, c.Queue, c.Down = active, nil, 0 })
	}
	change(func(c *impl.Combiner) { c.Active = slices.Repeat([]impl.Active{{Out: 24, Left: one}}, 1000) })
	change(func(c *impl.Combiner) { c.Combos, c.Active, c.Queue = nil, c.Active[:1], nil })
	for _, x := range badEvents() {
		change(func(c *impl.Combiner) { c.Queue = []impl.Event{x} })
		change(func(c *impl.Combiner) { c.Queue[1] = x })
		change(func(c *impl.Combiner) { c.Queue = append(c.Queue, x) })
	}
	for _, text := range []string{
		// no switch
		"20+24", "20+0 21+25", "20+31", "20-24", "20-25",
		// up of a switch that is up, down of one that is down, for itself or in a combination, and by the queue
		"20-0", "20-5", "20+1", "20+2", "20+3", "20+10", "20+23", "20+0 21+0", "20-2 21-2", "20-2 21+2 22+2", "20+0 21-0 22-0", "20+0 20+8 20+0", "20-10 20-2 20-10",
		// times that decrease or are behind Now
		"21+0 20+8", "20+0 22-0 21+0", "27+0", "20+0 27-0", "26+0 1000000-0",
	} {
		change(func(c *impl.Combiner) { c.Queue = eventsOf(t, text) })
	}
	change(func(c *impl.Combiner) { c.Queue = taps(20, 0, 65) })
	change(func(c *impl.Combiner) { c.Queue = taps(20, 0, 66) })
	change(func(c *impl.Combiner) { c.Queue = taps(20, 0, 6400) })
	return l
}

// randomSwitches returns n events that can come next for a combiner, most of them of the switches of combinations.
func randomSwitches(source *rand.Rand, c impl.Combiner, n int, from int, gap int) []impl.Event {
	isDown := map[int]bool{}
	for _, a := range append([]impl.Active{{Left: c.Down}}, c.Active...) {
		for _, key := range keysIn(a.Left) {
			isDown[key] = true
		}
	}
	for _, x := range c.Queue {
		isDown[x.Key] = x.Down
	}
	keys := []int{source.Intn(24)}
	for _, x := range c.Combos {
		keys = append(keys, keysIn(x.Keys)...)
	}
	var l []impl.Event
	for range n {
		if source.Intn(3) > 0 {
			from = min(from+source.Intn(gap+1), impl.MaxTime)
		}
		key := keys[source.Intn(len(keys))]
		isDown[key] = !isDown[key]
		l = append(l, impl.Event{Time: from, Key: key, Down: isDown[key]})
	}
	return l
}

// anyCombiner returns a combiner in a state to which events need not lead.
func anyCombiner(source *rand.Rand) impl.Combiner {
	c := impl.Combiner{Combos: randomCombos(source), Term: 1 + source.Intn(12)}
	taken := 0
	for _, at := range source.Perm(len(c.Combos)) {
		x := c.Combos[at]
		left := x.Keys
		if source.Intn(2) == 0 {
			left &= int(source.Uint32())
		}
		if source.Intn(2) == 0 && left != 0 && left&taken == 0 {
			c.Active = append(c.Active, impl.Active{Out: x.Out, Left: left, Open: left == x.Keys})
			taken |= left
		}
	}
	c.Down = int(source.Uint32()) & int(source.Uint32()) & (1<<24 - 1) &^ taken
	c.Queue = randomSwitches(source, c, source.Intn(8), source.Intn(30), 4)
	c.Now = source.Intn(60)
	if n := len(c.Queue); n > 0 {
		c.Now = max(c.Now, c.Queue[n-1].Time)
	}
	c.Clock = source.Intn(c.Now + 1)
	return c
}

func TestIsCombiner(t *testing.T) {
	if c := someCombiner(t); !isCombinerByTheText(c) || !impl.IsCombiner(c) {
		t.Errorf("IsCombiner(%v) = %v", c, impl.IsCombiner(c))
	}
	for i, c := range badCombiners(t) {
		if isCombinerByTheText(c) || impl.IsCombiner(c) {
			t.Errorf("bad combiner %d: IsCombiner = %v, want %v", i, impl.IsCombiner(c), isCombinerByTheText(c))
		}
	}
	source := rand.New(rand.NewSource(113))
	for range 2000 {
		c := anyCombiner(source)
		if !isCombinerByTheText(c) || !impl.IsCombiner(c) {
			t.Fatalf("IsCombiner(%v) = %v", c, impl.IsCombiner(c))
		}
		// A change of one number shows whether what is valid is as the text says.
		for range 20 {
			x := copyOfCombiner(c)
			changeCombiner(source, &x)
			if got, want := impl.IsCombiner(x), isCombinerByTheText(x); got != want {
				t.Fatalf("IsCombiner(%v) = %v, want %v", x, got, want)
			}
		}
	}
}

func changeCombiner(source *rand.Rand, c *impl.Combiner) {
	n := source.Intn(70) - 2
	key := 1 << source.Intn(25)
	anyCombo := c.Combos[source.Intn(len(c.Combos))]
	switch at := source.Intn(16); {
	case at == 0:
		c.Now = n
	case at == 1:
		c.Clock = n
	case at == 2:
		c.Down ^= key
	case at == 3:
		c.Term = n * 4
	case at == 4:
		c.Active = append(c.Active, impl.Active{Out: anyCombo.Out, Left: anyCombo.Keys, Open: true})
	case at == 5:
		left := anyCombo.Keys & int(source.Uint32())
		c.Active = append(c.Active, impl.Active{Out: anyCombo.Out, Left: left, Open: left == anyCombo.Keys})
	case at < 10 && len(c.Active) > 0:
		a := &c.Active[source.Intn(len(c.Active))]
		switch at {
		case 6:
			a.Out = anyCombo.Out
		case 7:
			a.Left ^= key
		case 8:
			a.Left &= int(source.Uint32())
		default:
			a.Open = !a.Open
		}
	case len(c.Queue) == 0:
		c.Queue = []impl.Event{{Time: n, Key: source.Intn(34) - 1, Down: n%2 == 0}}
	case at == 10:
		c.Queue[source.Intn(len(c.Queue))].Time = n
	case at == 11:
		c.Queue[source.Intn(len(c.Queue))].Key = source.Intn(34) - 1
	case at == 12:
		x := &c.Queue[source.Intn(len(c.Queue))]
		x.Down = !x.Down
	case at == 13:
		i := source.Intn(len(c.Queue))
		c.Queue = slices.Delete(c.Queue, i, i+1)
	default:
		c.Queue = append(c.Queue, c.Queue[source.Intn(len(c.Queue))])
	}
}

func TestLimitsOfCombiners(t *testing.T) {
	c := combinerOf(t, "0,1=24 22,23=31", 5)
	for n := -2; n <= 34; n++ {
		for _, isDown := range []bool{false, true} {
			x := copyOfCombiner(c)
			x.Queue = []impl.Event{{Key: n, Down: !isDown}}
			if isDown && n >= 0 && n < 24 {
				x.Down = 1 << n
			}
			if got, want := impl.IsCombiner(x), n >= 0 && n < 24; got != want {
				t.Errorf("with an event of key %d, IsCombiner = %v", n, got)
			}
		}
		if n >= 0 {
			x := copyOfCombiner(c)
			x.Down = 1 << n
			if got, want := impl.IsCombiner(x), n < 24; got != want {
				t.Errorf("with key %d down, IsCombiner = %v", n, got)
			}
		}
	}
	// With all switches down, for themselves and in combinations, the longest queue is taken.
	c.Down = 1<<22 - 4
	c.Active = []impl.Active{{Out: 31, Left: 3 << 22, Open: true}, {Out: 24, Left: 3, Open: true}}
	c.Now = impl.MaxTime
	c.Queue = slices.Concat(ups(3, 0, 23), downs(impl.MaxTime-1, 0, 23), ups(impl.MaxTime, 0, 15))
	if len(c.Queue) != 64 || !impl.IsCombiner(c) {
		t.Errorf("IsCombiner(%v) = %v", c, impl.IsCombiner(c))
	}
	checkCombine(t, c, nil, impl.MaxTime)
	c.Queue = append(c.Queue, down(impl.MaxTime, 7))
	if impl.IsCombiner(c) {
		t.Errorf("with %d events, IsCombiner = true", len(c.Queue))
	}
}

func TestMatchCombo(t *testing.T) {
	const pair, nested, wide = "0,1=24", "0,1=24 0,1,2=25", "0,1=24 0,1,2,3=25"
	for _, c := range []struct {
		combos   string
		term     int
		queue    string
		now      int
		n, time  int
		extraKey int
	}{
		// no combination has the switch
		{pair, 5, "3+2", 3, 1, 3, -1},
		{pair, 5, "3+23 3+0", 3, 1, 3, -1},
		{"", 5, "3+0", 3, 1, 3, -1},
		{pair, 5, "3+7", math.MinInt, 1, 3, -1},
		{pair, 5, "3+7 4+24", 3, 1, 3, -1},
		// nothing is known
		{pair, 5, "3+0", 7, 0, 0, -1},
		{pair, 5, "3+1", 3, 0, 0, -1},
		{pair, 5, "3+0", math.MinInt, 0, 0, -1},
		{nested, 5, "3+0 4+1", 7, 0, 0, -1},
		{nested, 5, "3+0 4+2", 7, 0, 0, -1},
		{wide, 5, "3+0 4+1 4+2", 7, 0, 0, -1},
		// the queue ends, and the time is over
		{pair, 5, "3+0", 8, 1, 8, -1},
		{pair, 5, "3+0", 9, 1, 8, -1},
		{pair, 5, "3+0", math.MaxInt, 1, 8, -1},
		{nested, 5, "3+0 4+1", 8, 2, 8, 24},
		{nested, 5, "3+0 4+1", 1000, 2, 8, 24},
		{nested, 5, "3+0 4+2", 8, 1, 8, -1},
		{wide, 5, "3+0 4+1 4+2", 8, 1, 8, -1},
		// a combination that can become no other
		{pair, 5, "3+0 7+1", 7, 2, 7, 24},
		{pair, 5, "3+1 3+0", 3, 2, 3, 24},
		{pair, 5, "3+1 3+0 3-1 5+7", 5, 2, 3, 24},
		{nested, 5, "3+0 4+1 5+2", 5, 3, 5, 25},
		{nested, 5, "3+2 4+0 5+1 6+3", 6, 3, 5, 25},
		{"0,1,2=25 3,4=26", 5, "3+2 4+0 5+1", 5, 3, 5, 25},
		{wide, 5, "3+2 4+0 5+1 6+3", 6, 4, 6, 25},
		// now has no part in it then
		{pair, 5, "3+0 7+1", -1, 2, 7, 24},
		{pair, 5, "3+0 7+1", math.MaxInt, 2, 7, 24},
		{nested, 5, "3+0 4+1 5-0", math.MinInt, 2, 5, 24},
		{nested, 5, "3+0 4+1 5-0", 1000, 2, 5, 24},
		// an event is not collected: an up, a switch of no such combination, a late one
		{pair, 5, "3+0 4-0", 4, 1, 4, -1},
		{pair, 5, "3+0 4-7", 4, 1, 4, -1},
		{pair, 5, "3+0 4-1", 4, 1, 4, -1},
		{pair, 5, "3+0 4+7", 4, 1, 4, -1},
		{pair, 5, "3+0 8+1", 8, 1, 8, -1},
		{pair, 5, "3+0 9+1", 9, 1, 8, -1},
		{pair, 5, "3+0 9-0", 9, 1, 8, -1},
		{pair, 5, "3+0 8+1", 0, 1, 8, -1},
		{nested, 5, "3+0 4+1 6+3", 6, 2, 6, 24},
		{nested, 5, "3+0 4+1 6-1", 6, 2, 6, 24},
		{nested, 5, "3+0 4+1 8+2", 8, 2, 8, 24},
		{nested, 5, "3+0 4+1 9+2", 9, 2, 8, 24},
		{nested, 5, "3+0 4+2 6-2", 6, 1, 6, -1},
		{wide, 5, "3+0 4+1 5+2 6-1", 6, 1, 6, -1},
		{wide, 5, "3+0 4+1 6+4", 6, 2, 6, 24},
		{"0,1=24 2,3=25", 5, "3+0 4+2 5+1", 5, 1, 4, -1},
		{"0,1=24 1,2=25", 5, "3+0 4+2 5+1", 5, 1, 4, -1},
		{"0,1=24 1,2=25", 5, "3+1 4+2 5+0", 5, 2, 4, 25},
		// the same switch again is collected, and adds nothing
		{pair, 5, "3+0 4+0 5+1", 5, 3, 5, 24},
		{pair, 5, "3+0 4+0", 7, 0, 0, -1},
		{pair, 5, "3+0 4+0", 8, 1, 8, -1},
		{nested, 5, "3+0 4+1 5+1", 8, 3, 8, 24},
		{nested, 5, "3+0 4+1 5+0 6-0", 6, 3, 6, 24},
		{nested, 5, "3+0 4+1 5+0 6+2", 6, 4, 6, 25},
		{nested, 5, "3+0 4+1 9+1", 9, 2, 8, 24},
		// the events need not be in order
		{pair, 5, "6+0 2+1", 6, 2, 2, 24},
		{pair, 5, "6+0 2-0", 6, 1, 2, -1},
		{nested, 5, "6+0 2+1 0-0", 6, 2, 0, 24},
		{nested, 5, "6+0 2+1", 10, 0, 0, -1},
		{nested, 5, "6+0 2+1", 11, 2, 11, 24},
		// the first event is no down of a switch
		{pair, 5, "", 1000, 0, 0, -1},
		{pair, 5, "3-0", 1000, 0, 0, -1},
		{pair, 5, "3-7", 1000, 0, 0, -1},
		{pair, 5, "3+24", 1000, 0, 0, -1},
		{pair, 5, "3+31", 1000, 0, 0, -1},
		{pair, 5, "3+32", 1000, 0, 0, -1},
		{pair, 5, "3+-1", 1000, 0, 0, -1},
		{pair, 5, "-1+0", 1000, 0, 0, -1},
		{pair, 5, "1000001+0", math.MaxInt, 0, 0, -1},
		{pair, 5, "1000001+7", math.MaxInt, 0, 0, -1},
		// an event that is met is no event of a switch
		{pair, 5, "3+0 4+24", 1000, 0, 0, -1},
		{pair, 5, "3+0 4-24", 1000, 0, 0, -1},
		{pair, 5, "3+0 4+31", 1000, 0, 0, -1},
		{pair, 5, "3+0 4+64", 1000, 0, 0, -1},
		{pair, 5, "3+0 4+-1", 1000, 0, 0, -1},
		{pair, 5, "3+0 -1+1", 1000, 0, 0, -1},
		{pair, 5, "3+0 -1-0", 1000, 0, 0, -1},
		{pair, 5, "3+0 1000001+1", 1000, 0, 0, -1},
		{pair, 5, "3+0 9+24", 1000, 0, 0, -1},
		{nested, 5, "3+0 4+1 5+24", 1000, 0, 0, -1},
		// and one that is not met has no part in it
		{pair, 5, "3+0 4+1 5+24", 5, 2, 4, 24},
		{pair, 5, "3+0 4-0 -5+24", 5, 1, 4, -1},
		{pair, 5, "3+0 9+1 9+99", 5, 1, 8, -1},
		// the limits of the term and of times
		{pair, 1, "3+0 3+1", 3, 2, 3, 24},
		{pair, 1, "3+0 4+1", 4, 1, 4, -1},
		{pair, 200, "3+0 202+1", 202, 2, 202, 24},
		{pair, 200, "3+0 203+1", 203, 1, 203, -1},
		{pair, 0, "3+0 3+1", 3, 0, 0, -1},
		{pair, 201, "3+0 3+1", 3, 0, 0, -1},
		{pair, -5, "3+7", 3, 0, 0, -1},
		{pair, 5, "1000000+0", 1000004, 0, 0, -1},
		{pair, 5, "1000000+0", 1000005, 1, 1000005, -1},
		{pair, 5, "1000000+0 1000000+1", 1000000, 2, 1000000, 24},
		// the limits of the keys
		{"22,23=31", 5, "3+23 4+22", 4, 2, 4, 31},
		{"20,21,22,23=31 0,23=24", 5, "3+23 4+22 5+21 6+20", 6, 4, 6, 31},
		{"20,21,22,23=31 0,23=24", 5, "3+23 4+0", 4, 2, 4, 24},
	} {
		l := combosOf(t, c.combos)
		for range 2 {
			if n, time, out := impl.MatchCombo(l, c.term, eventsOf(t, c.queue), c.now); n != c.n || time != c.time || out != c.extraKey {
				t.Errorf("MatchCombo(%v, %d, %q, %d) = %d, %d, %d, want %d, %d, %d", l, c.term, c.queue, c.now, n, time, out, c.n, c.time, c.extraKey)
			}
			// The order of the combinations has no part in it.
			slices.Reverse(l)
		}
	}
}

func checkMatch(t *testing.T, l []impl.Combo, term int, queue []impl.Event, now int) (int, int, int) {
	t.Helper()
	n, time, out := impl.MatchCombo(l, term, queue, now)
	if wantN, wantTime, wantOut := matchByTheText(l, term, queue, now); n != wantN || time != wantTime || out != wantOut {
		t.Fatalf("MatchCombo(%v, %d, %v, %d) = %d, %d, %d, want %d, %d, %d", l, term, queue, now, n, time, out, wantN, wantTime, wantOut)
	}
	return n, time, out
}

func TestMatchComboOfBadArguments(t *testing.T) {
	queues := [][]impl.Event{nil, {down(3, 0)}, {down(3, 7)}, {down(3, 0), down(4, 1)}, {down(3, 0), down(4, 1), down(5, 2)}, {up(3, 0)}, {down(3, 24)}}
	check := func(l []impl.Combo, term int, queue []impl.Event, now int) {
		t.Helper()
		if n, time, out := checkMatch(t, l, term, queue, now); n != 0 || time != 0 || out != -1 {
			t.Errorf("MatchCombo with %d combinations, %d, %v, %d = %d, %d, %d", len(l), term, queue, now, n, time, out)
		}
	}
	for _, queue := range queues {
		for _, now := range []int{0, 5, 1000, math.MaxInt, math.MinInt} {
			for _, l := range badCombos(t) {
				check(l, 5, queue, now)
			}
			for _, term := range append([]int{0, 201, 202, 1000}, noNumbers...) {
				check(combosOf(t, "0,1=24"), term, queue, now)
				check(nil, term, queue, now)
			}
		}
	}
	nested := combosOf(t, "0,1=24 0,1,2=25")
	for _, e := range badEvents() {
		check(nested, 5, []impl.Event{e}, 1000)
		check(nested, 5, []impl.Event{e, down(3, 1)}, 1000)
		check(nested, 5, []impl.Event{down(3, 0), e}, 1000)
		check(nested, 5, []impl.Event{down(3, 0), e, down(3, 1)}, 1000)
		check(nested, 5, []impl.Event{down(3, 0), down(3, 1), e}, 1000)
		if n, _, out := checkMatch(t, nested, 5, []impl.Event{down(3, 0), down(3, 1), down(3, 2), e}, 1000); n != 3 || out != 25 {
			t.Errorf("MatchCombo with %v behind a combination = %d, %d", e, n, out)
		}
		if n, _, out := checkMatch(t, nested, 5, []impl.Event{down(3, 7), e}, 1000); n != 1 || out != -1 {
			t.Errorf("MatchCombo with %v behind another switch = %d, %d", e, n, out)
		}
	}
	for _, l := range append(badEventLists(), validEventLists()...) {
		for _, term := range []int{1, 7, 200} {
			for _, now := range append([]int{0, 3, 7, 10, 1000}, noNumbers...) {
				checkMatch(t, nested, term, l, now)
				checkMatch(t, nil, term, l, now)
			}
		}
	}
	// There is no limit to the number of events.
	long := append(slices.Repeat([]impl.Event{down(1, 0)}, 3000), down(2, 1))
	if n, time, out := impl.MatchCombo(nested[:1], 5, long, 2); n != 3001 || time != 2 || out != 24 {
		t.Errorf("MatchCombo with %d events = %d, %d, %d", len(long), n, time, out)
	}
}

// someComboLists have parts, common switches, and sets between a combination and a greater one.
var someComboLists = []string{
	"0,1=24", "0,1,2=24", "0,1=24 0,1,2=25", "0,1=24 1,2=25", "0,1=24 0,2=25 0,1,2=26", "1,2=24 0,1,2=25 0,2=31",
}

// All lists of up to three events are tried, valid or not, in order or not.
func TestMatchComboOfAllShortLists(t *testing.T) {
	all := []impl.Event{{Time: 1, Key: 24, Down: true}, {Time: -1, Key: 1, Down: true}, {Time: 1, Key: -1}}
	for time := range 3 {
		for key := range 3 {
			all = append(all, down(time, key), up(time, key))
		}
	}
	var check func(l []impl.Combo, queue []impl.Event)
	check = func(l []impl.Combo, queue []impl.Event) {
		for term := 1; term <= 2; term++ {
			for now := 1; now <= 4; now++ {
				checkMatch(t, l, term, queue, now)
			}
		}
		if len(queue) < 3 {
			for _, e := range all {
				check(l, append(queue[:len(queue):len(queue)], e))
			}
		}
	}
	for _, text := range someComboLists[:4] {
		check(combosOf(t, text), nil)
	}
}

func TestMatchComboOfRandomQueues(t *testing.T) {
	source := rand.New(rand.NewSource(114))
	found := map[int]int{}
	for range 30000 {
		c := anyCombiner(source)
		var queue []impl.Event
		for _, key := range source.Perm(24) {
			if source.Intn(8) > 0 && !slices.ContainsFunc(c.Combos, func(x impl.Combo) bool { return x.Keys>>key&1 == 1 }) {
				continue
			}
			queue = append(queue, impl.Event{Time: source.Intn(c.Term + 1), Key: key, Down: source.Intn(20) > 0})
		}
		if len(queue) == 0 || source.Intn(2) == 0 {
			queue = append(queue, down(source.Intn(3), source.Intn(24)))
		}
		n, _, out := checkMatch(t, c.Combos, c.Term, queue[:1+source.Intn(len(queue))], source.Intn(20))
		if out >= 0 {
			found[n]++
		}
	}
	if found[2] < 500 || found[3] < 200 || found[4] < 50 {
		t.Errorf("combinations are found that take so many events: %v", found)
	}
}

func TestCombineEventsRejects(t *testing.T) {
	c := someCombiner(t)
	fine := eventsOf(t, "26+0 28-0")
	if _, _, ok := checkCombine(t, c, fine, 28); !ok {
		t.Fatalf("CombineEvents(%v, %v, 28) fails", c, fine)
	}
	check := func(c impl.Combiner, l []impl.Event, end int) {
		t.Helper()
		if got, given, ok := checkCombine(t, c, l, end); ok || len(given) != 0 || !isZeroCombiner(got) {
			t.Errorf("CombineEvents(%v, %v, %d) = %v, %v, %v", c, l, end, got, given, ok)
		}
	}
	for _, bad := range badCombiners(t) {
		check(bad, nil, 26)
		check(bad, nil, impl.MaxTime)
		check(bad, fine, 28)
	}
	for _, end := range append([]int{0, 24, 25, impl.MaxTime + 1, impl.MaxTime + 1000}, noNumbers...) {
		check(c, nil, end)
		check(c, fine, end)
		check(c, fine[:1], end)
	}
	for _, text := range []string{
		// the first is before Now, or the last behind the end
		"25+0", "25+0 27-0", "0+0", "26+0 31-0", "31+0", "26+0 1000000-0",
		// no switch, times that decrease
		"26+24", "26+31", "26-25", "26+0 27+24", "28+0 27-0", "27+0 26-0",
		// what cannot come next, by what is down, what waits and what is new
		"26-0", "26+5", "26+2", "26-1", "26-9", "26+10", "26+0 27+0", "26-5 27-5", "26+1 27+1", "26-2 27-2", "26+0 27-0 28-0",
	} {
		check(c, eventsOf(t, text), 30)
	}
	for _, x := range badEvents() {
		check(c, []impl.Event{x}, 30)
		check(c, []impl.Event{down(26, 0), x}, 30)
		check(c, []impl.Event{x, down(26, 0)}, 30)
		check(c, []impl.Event{x}, impl.MaxTime)
	}
}

func TestCombineEventsUpToTheLimits(t *testing.T) {
	c := combinerOf(t, "1,2=24", 10)
	for n := range 70 {
		_, given, ok := checkCombine(t, c, taps(5, 0, n), 5)
		if ok != (n <= 64) || ok && len(given) != n {
			t.Errorf("CombineEvents of %d events = %d events, %v", n, len(given), ok)
		}
	}
	// An event that waits counts too, though what is new would make it go.
	waits, _, _ := checkCombine(t, c, eventsOf(t, "0+1"), 9)
	for n := range 70 {
		_, given, ok := checkCombine(t, waits, taps(50, 0, n), 50)
		if ok != (n <= 63) || ok && len(given) != n+1 {
			t.Errorf("CombineEvents of %d events behind one = %d events, %v", n, len(given), ok)
		}
	}
	if _, given, ok := checkCombine(t, c, slices.Repeat(taps(5, 0, 2), 50000), 5); ok || len(given) != 0 {
		t.Errorf("CombineEvents of 100000 events = %d events, %v", len(given), ok)
	}
	late, _, ok := checkCombine(t, c, taps(impl.MaxTime, 0, 3), impl.MaxTime)
	if !ok || late.Now != impl.MaxTime || late.Clock != impl.MaxTime {
		t.Errorf("at the end of all times, CombineEvents = %v, %v", late, ok)
	}
	checkCombine(t, late, eventsOf(t, "1000000+1 1000000+2"), impl.MaxTime)
}

// An event is given out at the clock, if this is ahead of it.
func TestClockOfCombiners(t *testing.T) {
	c := combinerOf(t, "0,1=24 2,3=25 2,3,4=26", 5)
	c.Now, c.Clock, c.Down = 60, 40, maskOf(t, "9")
	c.Active = []impl.Active{{Out: 24, Left: 2}}
	for _, x := range []struct {
		queue        string
		given, state string
		clock        int
	}{
		{"", "", "down:9 24[1]", 40},
		{"20+7", "40+7", "down:7,9 24[1]", 40},
		{"20+7 41-7", "40+7 41-7", "down:9 24[1]", 41},
		{"20-9", "40-9", "24[1]", 40},
		{"50-9", "50-9", "24[1]", 50},
		// a silent up moves the clock too
		{"20-1", "", "down:9", 40},
		{"45-1", "", "down:9", 45},
		{"20+0", "40+0", "down:0,9 24[1]", 40},
		{"50+0", "55+0", "down:0,9 24[1]", 55},
		{"55+0", "60+0", "down:0,9 24[1]", 60},
		{"56+0", "", "56+0 down:9 24[1]", 40},
		{"20-1 21+0 22+1", "40+24", "down:9 24(0,1)", 40},
		{"20-1 50+0 52+1", "52+24", "down:9 24(0,1)", 52},
		{"20+2 22+3", "40+25", "down:9 24[1] 25(2,3)", 40},
		{"20+2 22+3 23+4", "40+26", "down:9 24[1] 26(2,3,4)", 40},
		{"36+2 37+3", "41+25", "down:9 24[1] 25(2,3)", 41},
		{"36+2 37+3 39+7", "40+25 40+7", "down:7,9 24[1] 25(2,3)", 40},
		{"36+2 37+3 41+7", "41+25 41+7", "down:7,9 24[1] 25(2,3)", 41},
		{"36+2 37+4 44-9", "41+2 42+4 44-9", "down:2,4 24[1]", 44},
	} {
		y := copyOfCombiner(c)
		y.Queue = eventsOf(t, x.queue)
		got, given, ok := checkCombine(t, y, nil, 60)
		if !ok || textOfEvents(given) != x.given || stateOfCombiner(got) != x.state || got.Clock != x.clock {
			t.Errorf("with %q, there is %q at %d and %q is given, %v, want %q at %d and %q", x.queue, stateOfCombiner(got), got.Clock, textOfEvents(given), ok, x.state, x.clock, x.given)
		}
	}
}

// What was down before goes up as what it is, for itself or with its combination, open or not.
func TestSwitchesThatAreDownBefore(t *testing.T) {
	c := someCombiner(t)
	c.Queue, c.Now, c.Clock = nil, 0, 0
	for _, x := range []struct{ events, given, state string }{
		{"3-10", "3-10", "down:23 24[1] 25(2,3,4)"},
		{"3-1", "", "down:10,23 25(2,3,4)"},
		{"3-2", "3-25", "down:10,23 24[1] 25[3,4]"},
		{"3-3 4-2", "3-25", "down:10,23 24[1] 25[4]"},
		{"3-3 4-2 5-4", "3-25", "down:10,23 24[1]"},
		{"3-3 4-1 5-4 6-23 7-2 8-10", "3-25 6-23 8-10", ""},
		// a switch of an active combination goes down with another one, in another combination
		{"3-1 4-2 5+1 6+2", "4-25 6+26", "down:10,23 25[3,4] 26(1,2)"},
		{"3-1 4-2 5+2 6+1 7-3 8-1", "4-25 6+26 8-26", "down:10,23 25[4] 26[2]"},
		{"3-2 4+2", "3-25", "4+2 down:10,23 24[1] 25[3,4]"},
		{"3-2 4+2 20-1", "3-25 14+2", "down:2,10,23 25[3,4]"},
		{"3-2 4+2 20-1 20-2", "3-25 14+2 20-2", "down:10,23 25[3,4]"},
	} {
		l := eventsOf(t, x.events)
		got, given, ok := checkCombine(t, c, l, max(9, l[len(l)-1].Time))
		if !ok || textOfEvents(given) != x.given || stateOfCombiner(got) != x.state {
			t.Errorf("%q becomes %q and gives %q, %v, want %q and %q", x.events, stateOfCombiner(got), textOfEvents(given), ok, x.state, x.given)
		}
	}
}

func TestCombineEventAndCombineWait(t *testing.T) {
	source := rand.New(rand.NewSource(115))
	combiners := append(badCombiners(t), someCombiner(t))
	for range 200 {
		combiners = append(combiners, anyCombiner(source))
	}
	events := append(badEvents(), eventsOf(t, "0+1 25+0 26+0 26-1 27-0 27+0 26+24 26-24 1000000+0 70+0 70+1 70-1 70-2")...)
	times := append([]int{0, 24, 25, 26, 27, 30, 61, 100, impl.MaxTime, impl.MaxTime + 1}, noNumbers...)
	fed, waited := 0, 0
	for _, c := range combiners {
		for _, x := range events {
			got, l, ok := impl.CombineEvent(c, x)
			want, given, fine := combineByTheText(c, []impl.Event{x}, x.Time)
			if ok != fine || !sameCombiner(got, want) || !slices.Equal(l, given) {
				checkGiven(t, c, fmt.Sprintf("CombineEvent %v", x), got, l, ok, want, given, fine)
			}
			if ok {
				fed++
			}
		}
		for _, time := range times {
			got, l, ok := impl.CombineWait(c, time)
			want, given, fine := combineByTheText(c, nil, time)
			if ok != fine || !sameCombiner(got, want) || !slices.Equal(l, given) {
				checkGiven(t, c, fmt.Sprintf("CombineWait %d", time), got, l, ok, want, given, fine)
			}
			if ok {
				waited++
			}
		}
	}
	if fed < 300 || waited < 300 {
		t.Errorf("only %d events are fed and %d times are waited for", fed, waited)
	}
}

// runByTheText returns the events of the switches that go down together from event i on, where all events are known.
func runByTheText(l []impl.Combo, term int, events []impl.Event, i int) []impl.Event {
	for n := i + 1; n < len(events); n++ {
		e := events[n]
		if !e.Down || e.Time >= events[i].Time+term || len(combosWithAll(l, events[i:n+1])) == 0 {
			return events[i:n]
		}
	}
	return events[i:]
}

// knownCombosByTheText gives out all events, where all of them are known. It keeps for each switch that is down the key that it went down as.
func knownCombosByTheText(l []impl.Combo, term int, events []impl.Event) []impl.Event {
	var given []impl.Event
	clock := 0
	keyOf, isDown := map[int]int{}, map[int]bool{}
	give := func(time int, key int) {
		clock = max(clock, time)
		isDown[key] = !isDown[key]
		given = append(given, impl.Event{Time: clock, Key: key, Down: isDown[key]})
	}
	for i := 0; i < len(events); i++ {
		e := events[i]
		if !e.Down {
			// The key is up already if another one of its switches went up.
			if key := keyOf[e.Key]; isDown[key] {
				give(e.Time, key)
			}
			continue
		}
		run := runByTheText(l, term, events, i)
		can, out := combosWithAll(l, run), outByTheText(l, run)
		known := e.Time + term
		if i+len(run) < len(events) {
			known = min(known, events[i+len(run)].Time)
		}
		switch {
		case len(can) == 0:
			known = e.Time
		case len(can) == 1 && out >= 0:
			known = run[len(run)-1].Time
		}
		if out < 0 {
			run, out = run[:1], e.Key
		}
		for _, x := range run {
			keyOf[x.Key] = out
		}
		give(known, out)
		i += len(run) - 1
	}
	return given
}

// checkKnownCombos checks that what is found on the way is found as if all events were known.
func checkKnownCombos(t *testing.T, start impl.Combiner, l []impl.Event) {
	t.Helper()
	end := start.Term
	if len(l) > 0 {
		end += l[len(l)-1].Time
	}
	c, fed := combineAll(t, start, l, end)
	if want := knownCombosByTheText(start.Combos, start.Term, l); !slices.Equal(fed, want) || len(c.Queue) != 0 {
		t.Fatalf("%s with %v and the term %d gives %q and leaves %q, want %q", textOfEvents(l), start.Combos, start.Term, textOfEvents(fed), stateOfCombiner(c), textOfEvents(want))
	}
}

func TestPromise9AsWithAllEventsKnown(t *testing.T) {
	for _, text := range someComboLists {
		for term := 1; term <= 3; term++ {
			start := combinerOf(t, text, term)
			eachList(3, 4, 2, func(l []impl.Event) { checkKnownCombos(t, start, l) })
		}
	}
	for _, text := range []string{"0,1=24 0,1,2,3=25", "0,1=24 2,3=25 0,1,2,3=26", "0,1,2=24 1,2,3=25 0,3=26"} {
		start := combinerOf(t, text, 2)
		eachList(4, 5, 1, func(l []impl.Event) { checkKnownCombos(t, start, l) })
	}
	source := rand.New(rand.NewSource(116))
	for range 3000 {
		start := newCombiner(t, randomCombos(source), 1+source.Intn(12))
		checkKnownCombos(t, start, randomSwitches(source, start, source.Intn(65), source.Intn(5), 1+source.Intn(8)))
	}
}

// Each list is given at once, event by event and by milliseconds.
func TestPromise9OfAllShortLists(t *testing.T) {
	lists := 0
	for i, text := range someComboLists {
		start := combinerOf(t, text, 1+i%3)
		eachList(3, 4, 2, func(l []impl.Event) {
			last := 0
			if len(l) > 0 {
				last = l[len(l)-1].Time
			}
			// With no time behind the last event, switches may still wait.
			for _, end := range []int{last, last + start.Term} {
				want, given, _ := checkCombine(t, start, l, end)
				for way := range 3 {
					var got impl.Combiner
					var fed []impl.Event
					if way == 2 {
						got, fed = combineAll(t, start, l, end)
					} else {
						got, fed = combineByMilliseconds(t, start, l, end, way == 1)
					}
					if !sameCombiner(got, want) || !slices.Equal(fed, given) {
						checkGiven(t, start, fmt.Sprintf("way %d of %v", way, l), got, fed, true, want, given, true)
					}
				}
			}
			lists++
		})
	}
	if lists < 10000 {
		t.Errorf("there are %d lists", lists)
	}
}

// splitAndCombine gives events in parts, with waits between them.
func splitAndCombine(t *testing.T, source *rand.Rand, c impl.Combiner, l []impl.Event, end int) (impl.Combiner, []impl.Event) {
	t.Helper()
	var all []impl.Event
	for len(l) > 0 || c.Now < end {
		n := source.Intn(min(len(l), 6) + 1)
		from, to := c.Now, end
		if n > 0 {
			from = l[n-1].Time
		}
		if n < len(l) {
			to = l[n].Time
		}
		until := from + source.Intn(to-from+1)
		if n == 0 && until == c.Now {
			until = to
		}
		next, given, ok := impl.CombineEvents(c, l[:n], until)
		if !ok {
			t.Fatalf("CombineEvents(%v, %v, %d) fails", c, l[:n], until)
		}
		c, all, l = next, append(all, given...), l[n:]
	}
	return c, all
}

func TestPromise9OnTheWay(t *testing.T) {
	source := rand.New(rand.NewSource(117))
	waited, givenAll, extra := 0, 0, 0
	for i := range 1500 {
		c := anyCombiner(source)
		if i%2 == 0 {
			c = newCombiner(t, c.Combos, c.Term)
		}
		gap := []int{1, 4, 15, 400}[source.Intn(4)]
		l := randomSwitches(source, c, source.Intn(64-len(c.Queue)), c.Now, gap)
		end := c.Now + source.Intn(20)
		if len(l) > 0 {
			end = l[len(l)-1].Time + source.Intn(20)
		}
		want, given, ok := checkCombine(t, c, l, end)
		if !ok {
			t.Fatalf("CombineEvents(%v, %v, %d) fails", c, l, end)
		}
		checkCombinedOnTheWay(t, c, l, end)
		got, parts := splitAndCombine(t, source, c, l, end)
		checkGiven(t, c, fmt.Sprintf("CombineEvents %v in parts up to %d", l, end), got, parts, true, want, given, true)
		waited += len(want.Queue)
		givenAll += len(given)
		for _, e := range given {
			if e.Key >= 24 {
				extra++
			}
		}
	}
	if waited < 100 || givenAll < 10000 || extra < 1000 {
		t.Errorf("only %d events wait at the end, and %d are given out, %d of extra keys", waited, givenAll, extra)
	}
}

// checkUp checks what is given out for events up to here: keys go down and up alternately, those that are down
// are those of the combiner, and when all switches are up, all keys are up and nothing waits.
func checkUp(t *testing.T, c impl.Combiner, fed []impl.Event, given []impl.Event) {
	t.Helper()
	isDown := c.Down
	for _, a := range c.Active {
		if a.Open {
			isDown |= 1 << a.Out
		}
	}
	if !isEventsByTheText(given) || heldAt(given, impl.MaxTime) != isDown {
		t.Fatalf("after %s with %v, %s is given and %q is the state", textOfEvents(fed), c.Combos, textOfEvents(given), stateOfCombiner(c))
	}
	if heldAt(fed, impl.MaxTime) != 0 {
		return
	}
	if isDown != 0 || len(c.Queue) != 0 || len(c.Active) != 0 || c.Down != 0 {
		t.Fatalf("after %s with %v, all switches are up, and the state is %q with %s given", textOfEvents(fed), c.Combos, stateOfCombiner(c), textOfEvents(given))
	}
}

func TestPromise9AllKeysAreUp(t *testing.T) {
	for i, text := range append(someComboLists, "0,1=24 0,1,2,3=25", "0,1=24 2,3=25 0,1,2,3=26") {
		start := combinerOf(t, text, 1+i%3)
		eachList(3+i/6, 4, 1, func(l []impl.Event) {
			c, given, ok := impl.CombineEvents(start, l, append([]impl.Event{{}}, l...)[len(l)].Time)
			if !ok {
				t.Fatalf("CombineEvents(%v, %v) fails", start, l)
			}
			checkUp(t, c, l, given)
			// The switches that are down go up in any order, at once or later.
			for _, gap := range []int{0, 1, 5} {
				rest := slices.Clone(l)
				time := c.Now
				for key := range 24 {
					if heldAt(l, impl.MaxTime)>>key&1 == 1 {
						time += gap
						rest = append(rest, up(time, key))
					}
				}
				next, more, ok := impl.CombineEvents(c, rest[len(l):], time)
				if !ok {
					t.Fatalf("CombineEvents(%v, %v) fails", c, rest[len(l):])
				}
				checkUp(t, next, rest, append(slices.Clone(given), more...))
			}
		})
	}
	source := rand.New(rand.NewSource(118))
	allUp := 0
	for range 1000 {
		c := newCombiner(t, randomCombos(source), 1+source.Intn(12))
		l := randomSwitches(source, c, 30, 0, 6)
		time := l[len(l)-1].Time
		for _, key := range source.Perm(24) {
			if heldAt(l, impl.MaxTime)>>key&1 == 1 {
				time += source.Intn(4)
				l = append(l, up(time, key))
			}
		}
		var all []impl.Event
		for i, e := range l {
			next, given, ok := impl.CombineEvent(c, e)
			if !ok {
				t.Fatalf("CombineEvent(%v, %v) fails", c, e)
			}
			c, all = next, append(all, given...)
			checkUp(t, c, l[:i+1], all)
			if heldAt(l[:i+1], impl.MaxTime) == 0 {
				allUp++
			}
		}
	}
	if allUp < 1200 {
		t.Errorf("only %d times all switches are up", allUp)
	}
}

// Millisecond by millisecond, each event is given out at once when it is known, and no switch waits longer than the term.
func TestPromise9WithinTheTerm(t *testing.T) {
	source := rand.New(rand.NewSource(119))
	open := 0
	for range 400 {
		c := newCombiner(t, randomCombos(source), 1+source.Intn(12))
		fed := randomSwitches(source, c, 16, source.Intn(5), 5)
		for l, time := fed, 0; len(l) > 0 || len(c.Queue) > 0; time++ {
			var all []impl.Event
			for len(l) > 0 && l[0].Time == time {
				next, given, ok := impl.CombineEvent(c, l[0])
				if !ok {
					t.Fatalf("CombineEvent(%v, %v) fails", c, l[0])
				}
				c, all, l = next, append(all, given...), l[1:]
			}
			next, given, ok := impl.CombineWait(c, time)
			if !ok {
				t.Fatalf("CombineWait(%v, %d) fails", c, time)
			}
			c = next
			for _, e := range append(all, given...) {
				if e.Time != time {
					t.Fatalf("at %d, %v is given", time, e)
				}
			}
			// What waits are the last events, all of them downs of switches that some combination has together.
			if done := len(fed) - len(l); !slices.Equal(c.Queue, fed[done-len(c.Queue):done]) {
				t.Fatalf("of %s, there wait %s", textOfEvents(fed[:done]), textOfEvents(c.Queue))
			}
			if len(c.Queue) > 0 {
				isUp := slices.ContainsFunc(c.Queue, func(e impl.Event) bool { return !e.Down })
				if isUp || time >= c.Queue[0].Time+c.Term || len(combosWithAll(c.Combos, c.Queue)) == 0 {
					t.Fatalf("at %d with %v and the term %d, there wait %s", time, c.Combos, c.Term, textOfEvents(c.Queue))
				}
				open++
			}
		}
	}
	if open < 1000 {
		t.Errorf("switches wait for only %d milliseconds", open)
	}
}

// roomyCombiner returns the combiner with more capacity in each list.
func roomyCombiner(c impl.Combiner) impl.Combiner {
	c.Combos = roomy(c.Combos, impl.Combo{Keys: -7})
	c.Queue = roomy(c.Queue, impl.Event{Time: -7})
	c.Active = roomy(c.Active, impl.Active{Left: -7})
	return c
}

func TestCombinersAreNewMemory(t *testing.T) {
	source := rand.New(rand.NewSource(120))
	combiners := append(badCombiners(t), someCombiner(t), combinerOf(t, "0,1=24", 5))
	for range 1000 {
		combiners = append(combiners, anyCombiner(source))
	}
	for _, c := range combiners {
		// To write down a very long list would take long.
		if len(c.Queue) > 100 || len(c.Combos) > 100 || len(c.Active) > 100 {
			continue
		}
		c = roomyCombiner(c)
		var l []impl.Event
		if impl.IsCombiner(c) {
			l = randomSwitches(source, c, 1+source.Intn(6), c.Now, 6)
		}
		l = roomy(l, impl.Event{Time: -7})
		before, events := wholeOf(reflect.ValueOf(c)), wholeOf(reflect.ValueOf(l))
		results := []any{c, l}
		take := func(next impl.Combiner, given []impl.Event, ok bool) { results = append(results, next, given) }
		made, _ := impl.NewCombiner(c.Combos, c.Term)
		results = append(results, made)
		impl.IsCombos(c.Combos)
		impl.IsCombiner(c)
		impl.MatchCombo(c.Combos, c.Term, c.Queue, c.Now)
		impl.MatchCombo(c.Combos, c.Term, l, c.Now)
		take(impl.CombineEvents(c, nil, c.Now))
		take(impl.CombineWait(c, c.Now))
		take(impl.CombineWait(c, c.Now+100))
		if len(l) > 0 {
			take(impl.CombineEvent(c, l[0]))
			take(impl.CombineEvents(c, l, l[len(l)-1].Time))
			take(impl.CombineEvents(c, l, l[len(l)-1].Time+20))
			take(impl.CombineEvents(c, l, l[0].Time-1))
			take(impl.CombineEvents(c, append(l[:len(l):len(l)], down(-1, -1)), impl.MaxTime))
		}
		checkApart(t, results...)
		if after := wholeOf(reflect.ValueOf(c)); after != before {
			t.Fatalf("the combiner has become %s, it was %s", after, before)
		}
		if after := wholeOf(reflect.ValueOf(l)); after != events {
			t.Fatalf("the events have become %s, they were %s", after, events)
		}
	}
}

// What is done to a result shows neither in the argument nor in what comes later.
func TestCombinersStayAsTheyAre(t *testing.T) {
	c := someCombiner(t)
	before := copyOfCombiner(c)
	l := eventsOf(t, "26-2 27+2 28-3 30+0 30-5")
	want, given, _ := checkCombine(t, c, l, 31)
	kept, text := copyOfCombiner(want), textOfEvents(given)
	got, more, ok := impl.CombineEvents(c, l, 31)
	if !ok || len(more) == 0 || len(got.Active) == 0 {
		t.Fatalf("CombineEvents(%v, %v, 31) = %v, %v, %v", c, l, got, more, ok)
	}
	clear(got.Combos)
	clear(got.Active)
	overwriteEvents(more)
	waits, _, _ := impl.CombineEvents(c, nil, 26)
	clear(waits.Combos)
	clear(waits.Active)
	overwriteEvents(waits.Queue)
	if made, ok := impl.NewCombiner(c.Combos, c.Term); ok {
		clear(made.Combos)
	}
	if !sameCombiner(c, before) || !sameCombiner(want, kept) || textOfEvents(given) != text {
		t.Errorf("with other results changed, CombineEvents gave %v, %s of %v", want, textOfEvents(given), c)
	}
	checkCombine(t, c, l, 31)
}
