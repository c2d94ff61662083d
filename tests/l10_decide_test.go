package tests

import (
	"fmt"
	"math"
	"math/rand"
	"reflect"

	"slices"
	"strings"
	"testing"

	"loop.example/g03414/impl"
)

func timing(term int, quick int, flavor int) impl.Timing {
	return impl.Timing{Term: term, Quick: quick, Flavor: flavor}
}

var flavors = []int{impl.HoldByTerm, impl.HoldOnPress, impl.HoldOnTap}

// eventsOf reads events as the document writes them, also those that are not valid alone: 5+3 is a down, 7-3 an up.
func eventsOf(t *testing.T, text string) []impl.Event {
	t.Helper()
	var l []impl.Event
	for _, part := range strings.Fields(text) {
		var e impl.Event
		var sign rune
		if n, err := fmt.Sscanf(part, "%d%c%d", &e.Time, &sign, &e.Key); n != 3 || err != nil {
			t.Fatalf("%q is no event", part)
		}
		e.Down = sign == '+'
		l = append(l, e)
	}
	return l
}

// deciderOf returns the decider of a keymap and macros of these formats.
func deciderOf(t *testing.T, keymap string, timing impl.Timing, macros ...string) impl.Decider {
	t.Helper()
	return newDecider(t, engineOf(t, keymap, macros...), timing)
}

func newDecider(t *testing.T, e impl.Engine, timing impl.Timing) impl.Decider {
	t.Helper()
	d, ok := impl.NewDecider(e, timing)
	if !ok || !sameDecider(d, impl.Decider{Engine: e, Timing: timing}) {
		t.Fatalf("NewDecider(%v, %v) = %v, %v", e, timing, d, ok)
	}
	return d
}

func sameDecider(a impl.Decider, b impl.Decider) bool {
	return sameEngine(a.Engine, b.Engine) && a.Timing == b.Timing && slices.Equal(a.Queue, b.Queue) &&
		a.Now == b.Now && a.Clock == b.Clock && a.Tapped == b.Tapped && a.TappedAt == b.TappedAt
}

func isZeroDecider(d impl.Decider) bool { return sameDecider(d, impl.Decider{}) }

func copyOfDecider(d impl.Decider) impl.Decider {
	c := d
	c.Engine = copyOfEngine(d.Engine)
	c.Queue = slices.Clone(d.Queue)
	return c
}

func sameSent(a []impl.Sent, b []impl.Sent) bool {
	return slices.EqualFunc(a, b, func(x impl.Sent, y impl.Sent) bool { return x.Time == y.Time && sameAs(x.Report, y.Report) })
}

// textOfSent has each report with its time in front of it.
func textOfSent(l []impl.Sent) string {
	var texts []string
	for _, s := range l {
		texts = append(texts, fmt.Sprint(s.Time, textOf(s.Report)))
	}
	return strings.Join(texts, " ")
}

// stateOfDecider tells which events wait, which key was tapped last and when, and what the engine remembers.
func stateOfDecider(d impl.Decider) string {
	var parts []string
	for _, e := range d.Queue {
		sign := "-"
		if e.Down {
			sign = "+"
		}
		parts = append(parts, fmt.Sprint(e.Time, sign, e.Key))
	}
	if d.Tapped != 0 {
		parts = append(parts, fmt.Sprint("tapped:", d.Tapped-1, "@", d.TappedAt))
	}
	if s := stateOf(d.Engine); s != "" {
		parts = append(parts, s)
	}
	return strings.Join(parts, " ")
}

func isTimingByTheText(t impl.Timing) bool {
	return t.Term >= 1 && t.Term <= 1000 && t.Quick >= 0 && t.Quick <= 1000 && slices.Contains(flavors, t.Flavor)
}

func isEventByTheText(e impl.Event) bool {
	return e.Time >= 0 && e.Time <= 1000000 && e.Key >= 0 && e.Key <= 31
}

// isDeciderByTheText goes through the queue for each key by itself.
func isDeciderByTheText(d impl.Decider) bool {
	if !isEngineByTheText(d.Engine) || !isTimingByTheText(d.Timing) || d.Now < 0 || d.Now > 1000000 || d.Clock < 0 || d.Clock > d.Now {
		return false
	}
	if d.Tapped < 0 || d.Tapped > d.Engine.Map.Keys || d.TappedAt < 0 || d.TappedAt > d.Now || len(d.Queue) > 64 {
		return false
	}
	isDown := map[int]bool{}
	for _, h := range d.Engine.Held {
		isDown[h.Key] = true
	}
	for i, e := range d.Queue {
		if !isEventByTheText(e) || e.Key >= d.Engine.Map.Keys || e.Time > d.Now || i > 0 && e.Time < d.Queue[i-1].Time {
			return false
		}
		if e.Down == isDown[e.Key] {
			return false
		}
		isDown[e.Key] = e.Down
	}
	return true
}

// choiceByTheText looks for the first event of each kind that ends the wait, and takes the foremost of them.
func choiceByTheText(t impl.Timing, key int, time int, rest []impl.Event, now int) (int, int) {
	if !isTimingByTheText(t) || time < 0 || time > 1000000 {
		return impl.ChoiceNone, 0
	}
	first := func(is func(i int, e impl.Event) bool) int {
		for i, e := range rest {
			if is(i, e) {
				return i
			}
		}
		return len(rest)
	}
	bad := first(func(i int, e impl.Event) bool { return !isEventByTheText(e) })
	late := first(func(i int, e impl.Event) bool { return e.Time >= time+t.Term })
	tapped := first(func(i int, e impl.Event) bool { return e.Key == key && !e.Down })
	other := first(func(i int, e impl.Event) bool {
		switch {
		case e.Key == key:
			return false
		case e.Down:
			return t.Flavor == impl.HoldOnPress
		}
		return t.Flavor == impl.HoldOnTap && slices.ContainsFunc(rest[:i], func(x impl.Event) bool { return x.Key == e.Key && x.Down })
	})
	switch n := min(bad, late, tapped, other); {
	case n == len(rest) && now >= time+t.Term:
		return impl.ChoiceHold, time + t.Term
	case n == len(rest) || n == bad:
		return impl.ChoiceNone, 0
	case n == late:
		return impl.ChoiceHold, time + t.Term
	case n == tapped:
		return impl.ChoiceTap, rest[n].Time
	default:
		return impl.ChoiceHold, rest[n].Time
	}
}

// performByTheText performs the first event of the queue, and reports whether it can.
func performByTheText(d impl.Decider) (impl.Decider, []impl.Sent, bool) {
	e := d.Queue[0]
	choice, at := impl.ChoiceNone, 0
	if canBoth := settledByTheText(d.Engine, e.Key, true) != settledByTheText(d.Engine, e.Key, false); e.Down && canBoth {
		choice, at = choiceByTheText(d.Timing, e.Key, e.Time, d.Queue[1:], d.Now)
		if d.Tapped == e.Key+1 && e.Time < d.TappedAt+d.Timing.Quick {
			choice, at = impl.ChoiceTap, e.Time
		}
		if choice == impl.ChoiceNone {
			return d, nil, false
		}
	}
	var l []impl.Report
	if e.Down {
		d.Engine, l, _ = pressByTheText(d.Engine, e.Key, choice == impl.ChoiceHold)
	} else {
		d.Engine, l, _ = releaseByTheText(d.Engine, e.Key)
	}
	switch {
	case choice == impl.ChoiceTap:
		d.Tapped, d.TappedAt = e.Key+1, e.Time
	case choice == impl.ChoiceHold:
		d.Tapped = 0
	case !e.Down && d.Tapped == e.Key+1:
		d.TappedAt = e.Time
	}
	d.Queue = d.Queue[1:]
	d.Clock = max(d.Clock, e.Time, at)
	var sent []impl.Sent
	for _, r := range l {
		sent = append(sent, impl.Sent{Time: d.Clock, Report: r})
	}
	return d, sent, true
}

func playByTheText(d impl.Decider, l []impl.Event, end int) (impl.Decider, []impl.Sent, bool) {
	if !isDeciderByTheText(d) || end < d.Now || len(l) > 0 && l[0].Time < d.Now {
		return impl.Decider{}, nil, false
	}
	next := copyOfDecider(d)
	next.Queue = append(next.Queue, l...)
	next.Now = end
	if !isDeciderByTheText(next) {
		return impl.Decider{}, nil, false
	}
	var all []impl.Sent
	for len(next.Queue) > 0 {
		later, sent, ok := performByTheText(next)
		if !ok {
			break
		}
		next, all = later, append(all, sent...)
	}
	return next, all, true
}

func checkPlayed(t *testing.T, d impl.Decider, what string, got impl.Decider, l []impl.Sent, ok bool, want impl.Decider, sent []impl.Sent, fine bool) {
	t.Helper()
	if ok != fine || !sameDecider(got, want) || !sameSent(l, sent) {
		t.Fatalf("%s of %v\n= %v, %s, %v\nwant %v, %s, %v", what, d, got, textOfSent(l), ok, want, textOfSent(sent), fine)
	}
	if ok && !impl.IsDecider(got) {
		t.Fatalf("after %s of %v, %v is no decider", what, d, got)
	}
}

func checkPlay(t *testing.T, d impl.Decider, l []impl.Event, end int) (impl.Decider, []impl.Sent, bool) {
	t.Helper()
	got, sent, ok := impl.PlayEvents(d, l, end)
	want, all, fine := playByTheText(d, l, end)
	checkPlayed(t, d, fmt.Sprintf("PlayEvents %v up to %d", l, end), got, sent, ok, want, all, fine)
	return got, sent, ok
}

// feedAll feeds events one by one and waits until the end.
func feedAll(t *testing.T, d impl.Decider, l []impl.Event, end int) (impl.Decider, []impl.Sent) {
	t.Helper()
	var all []impl.Sent
	for _, e := range l {
		next, sent, ok := impl.FeedEvent(d, e)
		if !ok {
			t.Fatalf("FeedEvent(%v, %v) fails", d, e)
		}
		d, all = next, append(all, sent...)
	}
	next, sent, ok := impl.WaitUntil(d, end)
	if !ok {
		t.Fatalf("WaitUntil(%v, %d) fails", d, end)
	}
	return next, append(all, sent...)
}

// feedByMilliseconds waits until each millisecond, and feeds the events of this time before that or behind it.
func feedByMilliseconds(t *testing.T, d impl.Decider, l []impl.Event, end int, waitFirst bool) (impl.Decider, []impl.Sent) {
	t.Helper()
	var all []impl.Sent
	take := func(next impl.Decider, sent []impl.Sent, ok bool) {
		if !ok {
			t.Fatalf("at %d, what follows %v fails", d.Now, d)
		}
		d, all = next, append(all, sent...)
	}
	for time := d.Now; time <= end; time++ {
		if waitFirst {
			take(impl.WaitUntil(d, time))
		}
		for len(l) > 0 && l[0].Time == time {
			take(impl.FeedEvent(d, l[0]))
			l = l[1:]
		}
		take(impl.WaitUntil(d, time))
	}
	return d, all
}

// checkOnTheWay checks that the same is decided and sent when the events come one by one.
func checkOnTheWay(t *testing.T, d impl.Decider, l []impl.Event, end int) {
	t.Helper()
	want, sent, ok := impl.PlayEvents(d, l, end)
	if !ok {
		t.Fatalf("PlayEvents(%v, %v, %d) fails", d, l, end)
	}
	got, fed := feedAll(t, d, l, end)
	checkPlayed(t, d, fmt.Sprintf("FeedEvent %v up to %d", l, end), got, fed, true, want, sent, true)
	if end-d.Now > 60 {
		return
	}
	for _, waitFirst := range []bool{false, true} {
		got, fed = feedByMilliseconds(t, d, l, end, waitFirst)
		checkPlayed(t, d, fmt.Sprintf("FeedEvent %v by milliseconds up to %d", l, end), got, fed, true, want, sent, true)
	}
}

// decideCase has a keymap, a timing and events, and what follows up to the end from the text of the document.
type decideCase struct {
	keymap      string
	timing      impl.Timing
	events      string
	end         int
	sent, state string
}

func checkDecided(t *testing.T, cases []decideCase, macros ...string) {
	t.Helper()
	for _, c := range cases {
		d := deciderOf(t, c.keymap, c.timing, macros...)
		l := eventsOf(t, c.events)
		got, sent, ok := checkPlay(t, d, l, c.end)
		if text := textOfSent(sent); !ok || text != c.sent {
			t.Errorf("%q with %v and %q up to %d sends %q, %v, want %q", c.keymap, c.timing, c.events, c.end, text, ok, c.sent)
		}
		if state := stateOfDecider(got); state != c.state {
			t.Errorf("%q with %v and %q up to %d has become %q, want %q", c.keymap, c.timing, c.events, c.end, state, c.state)
		}
		checkOnTheWay(t, d, l, c.end)
	}
}

func TestHoldByTerm(t *testing.T) {
	byTerm := timing(10, 0, impl.HoldByTerm)
	checkDecided(t, []decideCase{
		{"S/a b", byTerm, "", 0, "", ""},
		{"S/a b", byTerm, "", 1000, "", ""},
		{"S/a b", byTerm, "0+0", 0, "", "0+0"},
		{"S/a b", byTerm, "0+0", 9, "", "0+0"},
		{"S/a b", byTerm, "0+0", 10, "10S:", "0=S-"},
		{"S/a b", byTerm, "0+0", 30, "10S:", "0=S-"},
		{"S/a b", byTerm, "7+0", 16, "", "7+0"},
		{"S/a b", byTerm, "7+0", 17, "17S:", "0=S-"},
		{"S/a b", byTerm, "0+0 0-0", 0, "0:a 0:", "tapped:0@0"},
		{"S/a b", byTerm, "0+0 5-0", 5, "5:a 5:", "tapped:0@5"},
		{"S/a b", byTerm, "0+0 5-0", 50, "5:a 5:", "tapped:0@5"},
		{"S/a b", byTerm, "3+0 12-0", 12, "12:a 12:", "tapped:0@12"},
		{"S/a b", byTerm, "3+0 13-0", 13, "13S: 13:", ""},
		{"S/a b", byTerm, "3+0 14-0", 14, "13S: 14:", ""},
		// other keys decide nothing, and wait
		{"S/a b", byTerm, "0+0 3+1", 9, "", "0+0 3+1"},
		{"S/a b", byTerm, "0+0 3+1 6-1", 9, "", "0+0 3+1 6-1"},
		{"S/a b", byTerm, "0+0 3+1 6-1", 10, "10S: 10S:b 10S:", "0=S-"},
		{"S/a b", byTerm, "0+0 3+1 4-0", 9, "4:a 4:a,b 4:b", "tapped:0@4 1=b"},
		{"S/a b", byTerm, "0+0 3+1 6-1 9-0", 9, "9:a 9:a,b 9:a 9:", "tapped:0@9"},
		{"S/a b", byTerm, "0+0 3+1 6-1 10-0", 10, "10S: 10S:b 10S: 10:", ""},
		{"S/a b", byTerm, "0+0 10+1", 10, "10S: 10S:b", "0=S- 1=b"},
		{"S/a b", byTerm, "0+0 12+1 14-1 20-0", 20, "10S: 12S:b 14S: 20:", ""},
		{"S/a b", byTerm, "0+1 2+0 3-1 6-0", 6, "0:b 6:a,b 6:a 6:", "tapped:0@6"},
		// an event behind the term decides, whatever has been waited for
		{"S/a b", byTerm, "0+0 500000+1", 500000, "10S: 500000S:b", "0=S- 1=b"},
		{"S/a b", byTerm, "999990+0", 1000000, "1000000S:", "0=S-"},
		{"S/a b", byTerm, "999991+0", 1000000, "", "999991+0"},
		{"S/a b", byTerm, "999991+0 1000000-0", 1000000, "1000000:a 1000000:", "tapped:0@1000000"},
		// the limits of the term
		{"S/a b", timing(1, 0, impl.HoldByTerm), "0+0 0-0", 0, "0:a 0:", "tapped:0@0"},
		{"S/a b", timing(1, 0, impl.HoldByTerm), "0+0 1-0", 1, "1S: 1:", ""},
		{"S/a b", timing(1000, 0, impl.HoldByTerm), "0+0 999-0", 999, "999:a 999:", "tapped:0@999"},
		{"S/a b", timing(1000, 0, impl.HoldByTerm), "0+0 1000-0", 1000, "1000S: 1000:", ""},
	})
}

func TestHoldOnPress(t *testing.T) {
	onPress := timing(10, 0, impl.HoldOnPress)
	checkDecided(t, []decideCase{
		{"S/a b", onPress, "0+0 5-0", 5, "5:a 5:", "tapped:0@5"},
		{"S/a b", onPress, "0+0", 9, "", "0+0"},
		{"S/a b", onPress, "0+0", 10, "10S:", "0=S-"},
		{"S/a b", onPress, "0+0 10-0", 10, "10S: 10:", ""},
		{"S/a b", onPress, "0+0 3+1", 3, "3S: 3S:b", "0=S- 1=b"},
		{"S/a b", onPress, "0+0 0+1", 0, "0S: 0S:b", "0=S- 1=b"},
		{"S/a b", onPress, "0+0 3+1 4-0 5-1", 9, "3S: 3S:b 4:b 5:", ""},
		{"S/a b", onPress, "0+0 9+1", 9, "9S: 9S:b", "0=S- 1=b"},
		{"S/a b", onPress, "0+0 11+1", 11, "10S: 11S:b", "0=S- 1=b"},
		// the key goes up first
		{"S/a b", onPress, "0+0 3-0 3+1", 3, "3:a 3: 3:b", "tapped:0@3 1=b"},
		// an up of a key decides nothing
		{"S/a b", onPress, "0+1 2+0 3-1 4-0", 4, "0:b 4:a,b 4:a 4:", "tapped:0@4"},
		{"S/a b", onPress, "0+1 2+0 3-1 3+1", 3, "0:b 3S:b 3S: 3S:b", "0=S- 1=b"},
		// a key that does nothing decides too
		{"S/a none", onPress, "0+0 3+1", 3, "3S:", "0=S- 1=none"},
	})
}

func TestHoldOnTap(t *testing.T) {
	onTap := timing(10, 0, impl.HoldOnTap)
	checkDecided(t, []decideCase{
		{"S/a b", onTap, "0+0 5-0", 5, "5:a 5:", "tapped:0@5"},
		{"S/a b", onTap, "0+0", 9, "", "0+0"},
		{"S/a b", onTap, "0+0", 10, "10S:", "0=S-"},
		{"S/a b", onTap, "0+0 10-0", 10, "10S: 10:", ""},
		{"S/a b", onTap, "0+0 3+1", 9, "", "0+0 3+1"},
		{"S/a b", onTap, "0+0 3+1", 10, "10S: 10S:b", "0=S- 1=b"},
		{"S/a b", onTap, "0+0 3+1 6-1", 6, "6S: 6S:b 6S:", "0=S-"},
		{"S/a b", onTap, "0+0 0+1 0-1", 0, "0S: 0S:b 0S:", "0=S-"},
		{"S/a b", onTap, "0+0 3+1 9-1 9-0", 9, "9S: 9S:b 9S: 9:", ""},
		{"S/a b", onTap, "0+0 3+1 10-1", 10, "10S: 10S:b 10S:", "0=S-"},
		// the key goes up ahead of the other one
		{"S/a b", onTap, "0+0 3+1 6-0 7-1", 7, "6:a 6:a,b 6:b 7:", "tapped:0@6"},
		{"S/a b", onTap, "0+0 3+1 6-0 6-1", 6, "6:a 6:a,b 6:b 6:", "tapped:0@6"},
		// a key that was down before the key goes up
		{"S/a b", onTap, "0+1 2+0 3-1", 9, "0:b", "2+0 3-1 1=b"},
		{"S/a b", onTap, "0+1 2+0 3-1 8-0", 9, "0:b 8:a,b 8:a 8:", "tapped:0@8"},
		{"S/a b", onTap, "0+1 2+0 3-1", 12, "0:b 12S:b 12S:", "0=S-"},
		{"S/a b", onTap, "0+1 2+0 3-1 4+1 5-1", 9, "0:b 5S:b 5S: 5S:b 5S:", "0=S-"},
		{"S/a b c", onTap, "0+1 2+0 3+2 4-1 5-2", 9, "0:b 5S:b 5S:b,c 5S:c 5S:", "0=S-"},
		{"S/a b c", onTap, "0+1 2+0 3+2 4-1", 9, "0:b", "2+0 3+2 4-1 1=b"},
	})
}

// A key whose wait has ended stays behind one that still waits.
func TestOrderOfKeysThatWait(t *testing.T) {
	byTerm, onPress, onTap := timing(10, 0, impl.HoldByTerm), timing(10, 0, impl.HoldOnPress), timing(10, 0, impl.HoldOnTap)
	checkDecided(t, []decideCase{
		{"S/a C/b", byTerm, "0+0 2+1 4-1", 9, "", "0+0 2+1 4-1"},
		{"S/a C/b", byTerm, "0+0 2+1 4-1", 10, "10S: 10S:b 10S:", "tapped:1@4 0=S-"},
		{"S/a C/b", byTerm, "0+0 2+1 4-1 6-0", 6, "6:a 6:a,b 6:a 6:", "tapped:1@4"},
		{"S/a C/b", byTerm, "0+0 2+1 4-0", 9, "4:a", "2+1 4-0 tapped:0@0 0=a"},
		{"S/a C/b", byTerm, "0+0 2+1 4-0", 12, "4:a 12C:a 12C:", "1=C-"},
		{"S/a C/b", byTerm, "0+0 2+1", 11, "10S:", "2+1 0=S-"},
		{"S/a C/b", byTerm, "0+0 2+1", 12, "10S: 12CS:", "0=S- 1=C-"},
		{"S/a C/b", byTerm, "0+0 2+1 11-1", 11, "10S: 11S:b 11S:", "tapped:1@11 0=S-"},
		{"S/a C/b", byTerm, "0+0 2+1 12-1", 12, "10S: 12CS: 12S:", "0=S-"},
		{"S/a C/b A/c", onPress, "0+0 2+1 4+2", 4, "2S: 4CS:", "4+2 0=S- 1=C-"},
		{"S/a C/b A/c", onPress, "0+0 2+1 4+2 6-2", 6, "2S: 4CS: 6CS:c 6CS:", "tapped:2@6 0=S- 1=C-"},
		{"S/a C/b A/c", onPress, "0+0 2+1 3-1 4+2", 4, "2S: 3S:b 3S:", "4+2 tapped:1@3 0=S-"},
		{"S/a C/b A/c", onTap, "0+0 2+1 4-1", 4, "4S: 4S:b 4S:", "tapped:1@4 0=S-"},
		{"S/a C/b A/c", onTap, "0+0 2+1 4+2 6-2", 6, "6S: 6CS: 6CS:c 6CS:", "tapped:2@6 0=S- 1=C-"},
		{"S/a C/b A/c", onTap, "0+0 2+1 4+2 6-1 8-2", 8, "6S: 6S:b 8S:b,c 8S:c 8S:", "tapped:2@8 0=S-"},
	})
}

func TestLayersOfKeysThatWait(t *testing.T) {
	byTerm, onPress, onTap := timing(10, 0, impl.HoldByTerm), timing(10, 0, impl.HoldOnPress), timing(10, 0, impl.HoldOnTap)
	keymap := "1/a S/b c | pass d e"
	checkDecided(t, []decideCase{
		// what a key behind it does depends on what the key turns out to be
		{keymap, byTerm, "0+0 3+1", 10, "10:d", "0=mo:1 1=d"},
		{keymap, byTerm, "0+0 3+1 5-0", 12, "5:a", "3+1 5-0 tapped:0@0 0=a"},
		{keymap, byTerm, "0+0 3+1 5-0", 13, "5:a 13S:a 13S:", "1=S-"},
		{keymap, byTerm, "0+0 3+1 5-0 6-1", 6, "5:a 6:a,b 6:b 6:", "tapped:1@6"},
		{keymap, byTerm, "0+0 3+2 9-0 12-2", 12, "9:a 9:a,c 9:c 12:", "tapped:0@9"},
		{keymap, byTerm, "0+0 3+2 10-0 12-2", 12, "10:e 12:", ""},
		{keymap, byTerm, "0+0 3+2 11-0 11-2", 11, "10:e 11:", ""},
		{keymap, onPress, "0+0 3+1", 3, "3:d", "0=mo:1 1=d"},
		{keymap, onPress, "0+0 3+1 4-0", 4, "3:d", "1=d"},
		{keymap, onTap, "0+0 3+1 6-1", 6, "6:d 6:", "0=mo:1"},
		{keymap, onTap, "0+0 3+1 5-0 6-1", 6, "5:a 6:a,b 6:b 6:", "tapped:1@6"},
		// a key that waits on one layer alone
		{"mo:1 c | pass S/b", byTerm, "0+1 1-1", 1, "0:c 1:", ""},
		{"mo:1 c | pass S/b", byTerm, "0+0 1+1 2-0", 9, "", "1+1 2-0 0=mo:1"},
		{"mo:1 c | pass S/b", byTerm, "0+0 1+1 2-0 3-1", 3, "3:b 3:", "tapped:1@3"},
		{"mo:1 c | pass S/b", byTerm, "0+0 1+1 2-0 3-1 4+1", 4, "3:b 3: 4:c", "tapped:1@3 1=c"},
		{"mo:1 c | pass S/b", onTap, "0+0 1+1 2-0 11-1", 11, "11S: 11:", ""},
		{"mo:1 S/c | pass b", onPress, "0+1 1+0 2-1 3+1", 3, "1S: 2: 3:b", "0=mo:1 1=b"},
		{"tg:1 S/c | pass b", onPress, "0+0 1-0 2+1 3-1 4+0 5-0 6+1", 9, "2:b 3:", "6+1"},
		{"to:1 S/c | to:0 b", byTerm, "0+1 1+0", 9, "", "0+1 1+0"},
		{"to:1 S/c | to:0 b", byTerm, "0+1 1+0", 10, "10S:", "fixed:2 1=S- 0=to:1"},
		{"2/a 1/b c | pass pass d | pass pass e", byTerm, "0+1 2+0 4+2", 12, "12:e", "1=mo:1 0=mo:2 2=e"},
		{"2/a 1/b c | pass pass d | pass pass e", byTerm, "0+1 2+0 4+2 11-0", 11, "11:a 11:a,d 11:d", "tapped:0@11 1=mo:1 2=d"},
		// what else the engine knows comes to the keys in their order
		{"once:S C/a b", byTerm, "0+0 1-0 2+1 3+2 4-1", 4, "0S: 1: 4S:a 4S:a,b 4:b", "tapped:1@4 2=b"},
		{"once:S C/a b", byTerm, "0+0 1-0 2+1 3+2", 12, "0S: 1: 12C: 12CS:b", "1=C- 2=S-b"},
		{"caps C/a b", byTerm, "0+0 1-0 2+1 3+2 4-1 5-2", 5, "4S:a 4S:a,b 4S:b 5:", "tapped:1@4 word"},
		{"S/a macro:0", byTerm, "0+0 2+1 4-1", 10, "10S: 10CS: 10CS:b 10CS: 10S:", "0=S-"},
		{"S/a macro:0", byTerm, "0+0 2+1 4-0 4-1", 4, "4:a 4C:a 4C:a,b 4C:a 4:a 4:", "tapped:0@4"},
	}, "d=C- t=b u=C-")
}

func TestQuick(t *testing.T) {
	quick := timing(10, 5, impl.HoldByTerm)
	checkDecided(t, []decideCase{
		{"S/a b", quick, "0+0 2-0 2+0", 2, "2:a 2: 2:a", "tapped:0@2 0=a"},
		{"S/a b", quick, "0+0 2-0 4+0", 4, "2:a 2: 4:a", "tapped:0@4 0=a"},
		{"S/a b", quick, "0+0 2-0 6+0", 6, "2:a 2: 6:a", "tapped:0@6 0=a"},
		{"S/a b", quick, "0+0 2-0 7+0", 7, "2:a 2:", "7+0 tapped:0@2"},
		{"S/a b", quick, "0+0 2-0 7+0", 17, "2:a 2: 17S:", "0=S-"},
		{"S/a b", quick, "0+0 2-0 6+0", 30, "2:a 2: 6:a", "tapped:0@6 0=a"},
		{"S/a b", quick, "0+0 2-0 6+0 30-0", 30, "2:a 2: 6:a 30:", "tapped:0@30"},
		{"S/a b", quick, "0+0 2-0 6+0 30-0 34+0", 34, "2:a 2: 6:a 30: 34:a", "tapped:0@34 0=a"},
		{"S/a b", quick, "0+0 2-0 6+0 30-0 35+0", 35, "2:a 2: 6:a 30:", "35+0 tapped:0@30"},
		{"S/a b", quick, "0+0 9-0 13+0", 13, "9:a 9: 13:a", "tapped:0@13 0=a"},
		// held is not tapped
		{"S/a b", quick, "0+0 10-0 11+0", 11, "10S: 10:", "11+0"},
		{"S/a b", quick, "0+0 1-0 6+0 16-0 17+0", 17, "1:a 1: 16S: 16:", "17+0"},
		// another key was tapped last
		{"S/a C/b", quick, "0+0 1-0 2+1 3-1 4+0", 4, "1:a 1: 3:b 3:", "4+0 tapped:1@3"},
		{"S/a C/b", quick, "0+0 1-0 2+1 3-1 4+1", 4, "1:a 1: 3:b 3: 4:b", "tapped:1@4 1=b"},
		{"S/a C/b", quick, "0+0 1-0 2+1 12-1 13+0", 13, "1:a 1: 12C: 12:", "13+0"},
		{"S/a C/b c", quick, "0+0 1-0 2+2 3-2 4+0", 4, "1:a 1: 2:c 3: 4:a", "tapped:0@4 0=a"},
		{"S/a C/b c", quick, "0+0 1-0 2+2 4+0 5-2 5-0", 5, "1:a 1: 2:c 4:a,c 5:a 5:", "tapped:0@5"},
		// other keys do not change what is tapped at once
		{"S/a b", timing(10, 5, impl.HoldOnPress), "0+0 1-0 2+0 3+1", 3, "1:a 1: 2:a 3:a,b", "tapped:0@2 0=a 1=b"},
		{"S/a b", timing(10, 5, impl.HoldOnTap), "0+0 1-0 2+0 3+1 4-1", 4, "1:a 1: 2:a 3:a,b 4:a", "tapped:0@2 0=a"},
		// the times are those of the events, also where these wait
		{"S/a C/b", quick, "0+0 1+1 2-1 6+1", 10, "10S: 10S:b 10S: 10S:b", "tapped:1@6 0=S- 1=b"},
		{"S/a C/b", quick, "0+0 1+1 2-1 7+1", 10, "10S: 10S:b 10S:", "7+1 tapped:1@2 0=S-"},
		{"S/a C/b", quick, "0+0 1+1 2-1 7+1", 17, "10S: 10S:b 10S: 17CS:", "0=S- 1=C-"},
		// the key was another one in between: its last event counts
		{"S/a tg:1 | b pass", quick, "0+0 1-0 2+1 3-1 4+0 8-0 9+1 10-1 12+0", 12, "1:a 1: 4:b 8: 12:a", "tapped:0@12 0=a"},
		{"S/a tg:1 | b pass", quick, "0+0 1-0 2+1 3-1 4+0 7-0 9+1 10-1 12+0", 12, "1:a 1: 4:b 7:", "12+0 tapped:0@7"},
		{"S/a tg:1 | C/b pass", quick, "0+0 1-0 2+1 3-1 5+0", 5, "1:a 1: 5:b", "tapped:0@5 fixed:2 0=b"},
		// the limits
		{"S/a b", timing(10, 0, impl.HoldByTerm), "0+0 0-0 0+0", 0, "0:a 0:", "0+0 tapped:0@0"},
		{"S/a b", timing(10, 1, impl.HoldByTerm), "0+0 0-0 0+0", 0, "0:a 0: 0:a", "tapped:0@0 0=a"},
		{"S/a b", timing(10, 1, impl.HoldByTerm), "0+0 0-0 1+0", 1, "0:a 0:", "1+0 tapped:0@0"},
		{"S/a b", timing(10, 1000, impl.HoldByTerm), "0+0 0-0 999+0", 999, "0:a 0: 999:a", "tapped:0@999 0=a"},
		{"S/a b", timing(10, 1000, impl.HoldByTerm), "0+0 0-0 1000+0", 1000, "0:a 0:", "1000+0 tapped:0@0"},
		// a key that was never tapped is not tapped at once
		{"S/a b", quick, "0+0", 4, "", "0+0"},
		{"b S/a", quick, "0+0 1-0 2+1", 4, "0:b 1:", "2+1"},
	})
}

// The key goes up just before, at and just behind the end of the term.
func TestUpAtTheEndOfTheTerm(t *testing.T) {
	d := deciderOf(t, "S/a b", timing(1, 0, impl.HoldByTerm))
	for term := 1; term <= 1000; term++ {
		for _, flavor := range flavors {
			d.Timing = timing(term, 0, flavor)
			for _, start := range []int{0, 7, 1000000 - term - 1} {
				for _, c := range []struct {
					up     int
					choice int
					at     int
					sent   string
				}{
					{start + term - 1, impl.ChoiceTap, start + term - 1, fmt.Sprintf("%d:a %d:", start+term-1, start+term-1)},
					{start + term, impl.ChoiceHold, start + term, fmt.Sprintf("%dS: %d:", start+term, start+term)},
					{start + term + 1, impl.ChoiceHold, start + term, fmt.Sprintf("%dS: %d:", start+term, start+term+1)},
				} {
					l := []impl.Event{down(start, 0), up(c.up, 0)}
					for _, now := range []int{0, start, c.up, 1000000} {
						if choice, at := impl.ChoiceOf(d.Timing, 0, start, l[1:], now); choice != c.choice || at != c.at {
							t.Fatalf("ChoiceOf(%v, 0, %d, %v, %d) = %d, %d, want %d, %d", d.Timing, start, l[1:], now, choice, at, c.choice, c.at)
						}
					}
					if _, sent, ok := impl.PlayEvents(d, l, c.up); !ok || textOfSent(sent) != c.sent {
						t.Fatalf("PlayEvents of %v with %v = %s, %v, want %s", l, d.Timing, textOfSent(sent), ok, c.sent)
					}
					if _, sent := feedAll(t, d, l, c.up); textOfSent(sent) != c.sent {
						t.Fatalf("FeedEvent of %v with %v = %s, want %s", l, d.Timing, textOfSent(sent), c.sent)
					}
					// The time of the up is waited for before the up is known.
					waited, first, _ := impl.PlayEvents(d, l[:1], c.up)
					_, last, ok := impl.FeedEvent(waited, l[1])
					if text := textOfSent(append(first, last...)); !ok || text != c.sent {
						t.Fatalf("after waiting, %v with %v = %s, %v, want %s", l, d.Timing, text, ok, c.sent)
					}
				}
			}
		}
	}
}

// Another key goes down and up around the end of the term.
func TestOtherKeysAtTheEndOfTheTerm(t *testing.T) {
	onPress, onTap := timing(10, 0, impl.HoldOnPress), timing(10, 0, impl.HoldOnTap)
	checkDecided(t, []decideCase{
		{"S/a b", onPress, "5+0 14+1", 14, "14S: 14S:b", "0=S- 1=b"},
		{"S/a b", onPress, "5+0 15+1", 15, "15S: 15S:b", "0=S- 1=b"},
		{"S/a b", onPress, "5+0 16+1", 16, "15S: 16S:b", "0=S- 1=b"},
		{"S/a b", onPress, "5+0 15-0 15+1", 15, "15S: 15: 15:b", "1=b"},
		{"S/a b", onTap, "5+0 14+1 15-0", 15, "15S: 15S:b 15:b", "1=b"},
		{"S/a b", onTap, "5+0 14+1 14-1 15-0", 15, "14S: 14S:b 14S: 15:", ""},
		{"S/a b", onTap, "5+0 14+1 15-1 15-0", 15, "15S: 15S:b 15S: 15:", ""},
		{"S/a b", onTap, "5+0 14-0 14+1 15-1", 15, "14:a 14: 14:b 15:", "tapped:0@14"},
	})
}

func TestIsTiming(t *testing.T) {
	numbers := append([]int{0, 1, 2, 3, 4, 10, 256, 999, 1000, 1001, 1002, 2000}, noNumbers...)
	valid := 0
	for _, term := range numbers {
		for _, quick := range numbers {
			for _, flavor := range numbers {
				x := timing(term, quick, flavor)
				if got, want := impl.IsTiming(x), isTimingByTheText(x); got != want {
					t.Errorf("IsTiming(%v) = %v, want %v", x, got, want)
				}
				if impl.IsTiming(x) {
					valid++
				}
			}
		}
	}
	if valid != 8*9*3 {
		t.Errorf("%d timings are valid", valid)
	}
}

// badTimings are each invalid for one reason, but for the zero value.
func badTimings() []impl.Timing {
	l := []impl.Timing{{}}
	for _, n := range append([]int{1001, 1002, 10000}, noNumbers...) {
		l = append(l, timing(n, 5, impl.HoldOnTap), timing(10, n, impl.HoldOnTap), timing(10, 5, n))
	}
	for _, flavor := range flavors {
		l = append(l, timing(0, 5, flavor), timing(-1, 5, flavor), timing(1001, 0, flavor), timing(1, -1, flavor))
	}
	return append(l, timing(10, 5, 3), timing(10, 5, 4), timing(10, 5, 256))
}

func TestNewDecider(t *testing.T) {
	source := rand.New(rand.NewSource(101))
	for i, e := range randomEngines(300) {
		if i%2 == 0 {
			e = inAnyState(source, e)
		}
		d := newDecider(t, e, timing(1+source.Intn(1000), source.Intn(1001), source.Intn(3)))
		if !impl.IsDecider(d) {
			t.Fatalf("IsDecider(%v) = false", d)
		}
	}
	good := timing(10, 5, impl.HoldOnTap)
	check := func(e impl.Engine, x impl.Timing) {
		t.Helper()
		if d, ok := impl.NewDecider(e, x); ok || !isZeroDecider(d) {
			t.Errorf("NewDecider(%v, %v) = %v, %v", e, x, d, ok)
		}
	}
	for _, e := range badEngines(t) {
		check(e, good)
		check(e, impl.Timing{})
	}
	for _, x := range badTimings() {
		check(engineOf(t, "a S/b"), x)
	}
}

// someDecider has a number other than 0 in each field.
func someDecider(t *testing.T) impl.Decider {
	t.Helper()
	e := engineOf(t, "S/a 1/b c mo:1 | pass C/d e pass", "t=z")
	e.Held = []impl.Held{{Key: 3, Action: impl.Action{Kind: impl.ActMomentary, N: 1}}, {Key: 2, Action: letterA}}
	e.Fixed, e.Once, e.Caps = 2, 5, true
	return impl.Decider{Engine: e, Timing: timing(10, 5, impl.HoldOnTap), Queue: eventsOf(t, "20+0 22-2 22+2 25-3"), Now: 26, Clock: 19, Tapped: 2, TappedAt: 18}
}

// badDeciders are each invalid for one reason.
func badDeciders(t *testing.T) []impl.Decider {
	good := someDecider(t)
	l := []impl.Decider{{}, {Timing: good.Timing}, {Engine: good.Engine}}
	change := func(to func(d *impl.Decider)) {
		d := copyOfDecider(good)
		to(&d)
		l = append(l, d)
	}
	for _, e := range badEngines(t) {
		l = append(l, impl.Decider{Engine: e, Timing: good.Timing})
	}
	for _, x := range badTimings() {
		change(func(d *impl.Decider) { d.Timing = x })
	}
	for _, n := range append([]int{impl.MaxTime + 1, impl.MaxTime + 1000}, noNumbers...) {
		change(func(d *impl.Decider) { d.Now = n })
		change(func(d *impl.Decider) { d.Now, d.Queue, d.Clock, d.TappedAt = n, nil, 0, 0 })
		change(func(d *impl.Decider) { d.Clock = n })
		change(func(d *impl.Decider) { d.TappedAt = n })
		change(func(d *impl.Decider) { d.Tapped = n })
		change(func(d *impl.Decider) { d.Tapped, d.TappedAt = n, 0 })
	}
	for _, n := range []int{0, 20, 24} {
		change(func(d *impl.Decider) { d.Now = n })
	}
	change(func(d *impl.Decider) { d.Clock = 27 })
	change(func(d *impl.Decider) { d.TappedAt = 27 })
	change(func(d *impl.Decider) { d.Tapped, d.TappedAt = 0, 27 })
	for _, n := range []int{5, 6, 31, 32, 33} {
		change(func(d *impl.Decider) { d.Tapped = n })
	}
	for _, x := range badEvents() {
		change(func(d *impl.Decider) { d.Queue = []impl.Event{x} })
		change(func(d *impl.Decider) { d.Queue[1] = x })
		change(func(d *impl.Decider) { d.Queue = append(d.Queue, x) })
	}
	for _, text := range []string{
		// no such key
		"20+4", "20+0 21+5", "20+31", "20+24",
		// up of a key that is up, down of one that is down, by what is held and by the queue
		"20-0", "20-1", "20+2", "20+3", "20+0 21+0", "20-2 21-2", "20-2 21+2 22+2", "20+0 21-0 22-0", "20+0 20+1 20+0", "20-3 20-2 20-3",
		// times that decrease or are behind Now
		"21+0 20+1", "20+0 22-0 21+0", "27+0", "20+0 27-0", "26+0 1000000-0",
	} {
		change(func(d *impl.Decider) { d.Queue = eventsOf(t, text) })
	}
	change(func(d *impl.Decider) { d.Queue = taps(20, 0, 65) })
	change(func(d *impl.Decider) { d.Queue = taps(20, 0, 66) })
	change(func(d *impl.Decider) { d.Queue = taps(20, 0, 6400) })
	return l
}

// randomQueue returns n events that can come next for an engine, behind those that wait.
func randomQueue(source *rand.Rand, e impl.Engine, queue []impl.Event, n int, from int, gap int) []impl.Event {
	isDown := map[int]bool{}
	for _, h := range e.Held {
		isDown[h.Key] = true
	}
	for _, x := range queue {
		isDown[x.Key] = x.Down
	}
	keys := source.Perm(e.Map.Keys)[:1+source.Intn(min(e.Map.Keys, 5))]
	var l []impl.Event
	for range n {
		from = min(from+source.Intn(gap+1), impl.MaxTime)
		key := keys[source.Intn(len(keys))]
		isDown[key] = !isDown[key]
		l = append(l, impl.Event{Time: from, Key: key, Down: isDown[key]})
	}
	return l
}

// withTapHolds makes most keys of layer 0 such that can be tapped or held.
func withTapHolds(source *rand.Rand, e impl.Engine) impl.Engine {
	for key := range e.Map.Keys {
		n := 1 + source.Intn(4)
		switch {
		case source.Intn(3) == 0:
		case n < len(e.Map.Layers):
			e.Map.Layers[0][key] = impl.Action{Kind: impl.ActLayerTap, Code: 1 + key, N: n}
		default:
			e.Map.Layers[0][key] = impl.Action{Kind: impl.ActModTap, Code: 1 + key, Mods: 1 + source.Intn(15)}
		}
	}
	return e
}

// randomTiming is short, so that the term ends among the events.
func randomTiming(source *rand.Rand) impl.Timing {
	return timing(1+source.Intn(12), source.Intn(10), source.Intn(3))
}

// anyDecider returns a decider in a state to which events need not lead.
func anyDecider(source *rand.Rand, e impl.Engine) impl.Decider {
	d := impl.Decider{Engine: inAnyState(source, withTapHolds(source, e)), Timing: randomTiming(source)}
	d.Queue = randomQueue(source, d.Engine, nil, source.Intn(8), source.Intn(30), 4)
	d.Now = source.Intn(60)
	if n := len(d.Queue); n > 0 {
		d.Now = max(d.Now, d.Queue[n-1].Time)
	}
	d.Clock = source.Intn(d.Now + 1)
	d.Tapped = source.Intn(min(d.Engine.Map.Keys, 6) + 1)
	d.TappedAt = source.Intn(d.Now + 1)
	return d
}

func TestIsDecider(t *testing.T) {
	if d := someDecider(t); !isDeciderByTheText(d) || !impl.IsDecider(d) {
		t.Errorf("IsDecider(%v) = %v", d, impl.IsDecider(d))
	}
	for i, d := range badDeciders(t) {
		if isDeciderByTheText(d) || impl.IsDecider(d) {
			t.Errorf("bad decider %d: IsDecider(%v) = %v", i, d, impl.IsDecider(d))
		}
	}
	source := rand.New(rand.NewSource(102))
	for _, e := range randomEngines(400) {
		d := anyDecider(source, e)
		if !isDeciderByTheText(d) || !impl.IsDecider(d) {
			t.Fatalf("IsDecider(%v) = %v", d, impl.IsDecider(d))
		}
		// A change of one number shows whether what is valid is as the text says.
		for range 10 {
			c := copyOfDecider(d)
			n := source.Intn(70) - 2
			switch at := source.Intn(10); {
			case at == 0:
				c.Now = n
			case at == 1:
				c.Clock = n
			case at == 2:
				c.Tapped = n
			case at == 3:
				c.TappedAt = n
			case len(c.Queue) == 0:
				c.Queue = []impl.Event{{Time: n, Key: source.Intn(34) - 1, Down: n%2 == 0}}
			case at == 4:
				c.Queue[source.Intn(len(c.Queue))].Time = n
			case at == 5:
				c.Queue[source.Intn(len(c.Queue))].Key = n
			case at == 6:
				x := &c.Queue[source.Intn(len(c.Queue))]
				x.Down = !x.Down
			case at == 7:
				i := source.Intn(len(c.Queue))
				c.Queue = slices.Delete(c.Queue, i, i+1)
			default:
				c.Queue = append(c.Queue, c.Queue[source.Intn(len(c.Queue))])
			}
			if got, want := impl.IsDecider(c), isDeciderByTheText(c); got != want {
				t.Fatalf("IsDecider(%v) = %v, want %v", c, got, want)
			}
		}
	}
}

func TestLimitsOfDeciders(t *testing.T) {
	for _, keys := range []int{1, 2, 31, 32} {
		e := impl.Engine{Map: filled(keys, 1, letterA)}
		for n := -2; n <= 34; n++ {
			for _, isHeld := range []bool{false, true} {
				d := newDecider(t, e, timing(10, 0, impl.HoldByTerm))
				d.Queue = []impl.Event{{Key: n, Down: !isHeld}}
				if isHeld && n >= 0 && n < keys {
					d.Engine.Held = []impl.Held{{Key: n}}
				}
				if got, want := impl.IsDecider(d), n >= 0 && n < keys; got != want {
					t.Errorf("with %d keys and an event of key %d, IsDecider = %v", keys, n, got)
				}
				d.Queue, d.Tapped = nil, n
				if got, want := impl.IsDecider(d), n >= 0 && n <= keys; got != want {
					t.Errorf("with %d keys and Tapped %d, IsDecider = %v", keys, n, got)
				}
			}
		}
	}
	// With all keys held, a queue of all their events is the longest one.
	d := newDecider(t, impl.Engine{Map: filled(32, 1, letterA)}, timing(10, 0, impl.HoldByTerm))
	for key := range 32 {
		d.Engine.Held = append(d.Engine.Held, impl.Held{Key: key, Action: letterA})
	}
	d.Now = impl.MaxTime
	d.Queue = slices.Concat(ups(3, 0, 31), downs(impl.MaxTime, 0, 31))
	if !impl.IsDecider(d) {
		t.Errorf("IsDecider(%v) = false", d)
	}
	checkPlay(t, d, nil, impl.MaxTime)
	d.Queue = append(d.Queue, up(impl.MaxTime, 7))
	if impl.IsDecider(d) {
		t.Errorf("with %d events, IsDecider = true", len(d.Queue))
	}
}

func TestChoiceOf(t *testing.T) {
	byTerm, onPress, onTap := timing(10, 0, impl.HoldByTerm), timing(10, 0, impl.HoldOnPress), timing(10, 0, impl.HoldOnTap)
	const none, tap, hold = impl.ChoiceNone, impl.ChoiceTap, impl.ChoiceHold
	for _, c := range []struct {
		timing     impl.Timing
		key, time  int
		rest       string
		now        int
		choice, at int
	}{
		{byTerm, 3, 20, "", 0, none, 0},
		{byTerm, 3, 20, "", 29, none, 0},
		{byTerm, 3, 20, "", 30, hold, 30},
		{byTerm, 3, 20, "", 31, hold, 30},
		{byTerm, 3, 20, "", math.MaxInt, hold, 30},
		{byTerm, 3, 20, "", math.MinInt, none, 0},
		{byTerm, 3, 20, "25-3", 25, tap, 25},
		{byTerm, 3, 20, "29-3", 29, tap, 29},
		{byTerm, 3, 20, "30-3", 30, hold, 30},
		{byTerm, 3, 20, "30+4", 30, hold, 30},
		{byTerm, 3, 20, "400+3", 0, hold, 30},
		// now counts only where no event decides
		{byTerm, 3, 20, "25-3", 1000, tap, 25},
		{byTerm, 3, 20, "25-3", -1, tap, 25},
		{byTerm, 3, 20, "25+4", 29, none, 0},
		{byTerm, 3, 20, "25+4", 30, hold, 30},
		{byTerm, 3, 20, "25+4 26-4 27-3", 27, tap, 27},
		{onPress, 3, 20, "25+4 27-3", 27, hold, 25},
		{onPress, 3, 20, "25-4 27-3", 27, tap, 27},
		{onPress, 3, 20, "25-4 27+4", 27, hold, 27},
		{onPress, 3, 20, "30+4", 30, hold, 30},
		{onTap, 3, 20, "25+4 27-3", 27, tap, 27},
		{onTap, 3, 20, "25+4 26-4 27-3", 27, hold, 26},
		{onTap, 3, 20, "25-4 27-3", 27, tap, 27},
		{onTap, 3, 20, "25+4 26-5 27-3", 27, tap, 27},
		{onTap, 3, 20, "25+4 26+5 27-5", 27, hold, 27},
		{onTap, 3, 20, "25-4 26+4 27-4", 27, hold, 27},
		{onTap, 3, 20, "25+0 26-0", 27, hold, 26},
		{onTap, 3, 20, "25+31 26-31", 27, hold, 26},
		// other events of the key are skipped
		{byTerm, 3, 20, "25+3", 29, none, 0},
		{byTerm, 3, 20, "25+3 26-3", 29, tap, 26},
		{onPress, 3, 20, "25+3 26+4", 29, hold, 26},
		{onPress, 3, 20, "25+3", 30, hold, 30},
		{onTap, 3, 20, "25+3 26-4", 29, none, 0},
		{onTap, 3, 20, "25+3 26-3", 29, tap, 26},
		// the events need not be in order, and not behind the time of the key
		{byTerm, 3, 20, "28+4 5-3", 29, tap, 5},
		{onPress, 3, 20, "5+4", 29, hold, 5},
		{onTap, 3, 20, "28+4 0-4", 29, hold, 0},
		{onTap, 3, 20, "25+4 25+4 26-4", 29, hold, 26},
		// any key may be asked for
		{onTap, 32, 20, "25+4 26-4", 29, hold, 26},
		{onTap, -1, 20, "25-1", 29, none, 0},
		{byTerm, 68, 20, "25-4", 29, none, 0},
		{byTerm, math.MinInt, 20, "", 30, hold, 30},
		// an event that is not valid is met ahead of what would decide, or is not met
		{byTerm, 3, 20, "25+32 26-3", 1000, none, 0},
		{byTerm, 3, 20, "-1+4 26-3", 1000, none, 0},
		{byTerm, 3, 20, "26-3 27+32", 1000, tap, 26},
		{byTerm, 3, 20, "1000001-3", 1000, none, 0},
		{byTerm, 3, 20, "30+32", 1000, none, 0},
		{byTerm, 3, 20, "30+4 30+32", 1000, hold, 30},
		{onPress, 3, 20, "25+32", 1000, none, 0},
		{onPress, 3, 20, "25+31 26+32", 1000, hold, 25},
		{byTerm, 32, 20, "25-32", 1000, none, 0},
		// the limits of times
		{byTerm, 3, 0, "0-3", 0, tap, 0},
		{byTerm, 3, -1, "0-3", 1000, none, 0},
		{byTerm, 3, 1000000, "1000000-3", 1000000, tap, 1000000},
		{byTerm, 3, 1000000, "", 1000009, none, 0},
		{byTerm, 3, 1000000, "", 1000010, hold, 1000010},
		{byTerm, 3, 1000001, "1000000-3", math.MaxInt, none, 0},
		{timing(1, 0, 0), 3, 20, "20-3", 20, tap, 20},
		{timing(1, 0, 0), 3, 20, "21-3", 20, hold, 21},
		{timing(1000, 0, 0), 3, 20, "1019-3", 20, tap, 1019},
		{timing(1000, 0, 0), 3, 1000000, "", 1001000, hold, 1001000},
	} {
		rest := eventsOf(t, c.rest)
		if choice, at := impl.ChoiceOf(c.timing, c.key, c.time, rest, c.now); choice != c.choice || at != c.at {
			t.Errorf("ChoiceOf(%v, %d, %d, %q, %d) = %d, %d, want %d, %d", c.timing, c.key, c.time, c.rest, c.now, choice, at, c.choice, c.at)
		}
		// Quick has no part in it.
		c.timing.Quick = 1000
		if choice, at := impl.ChoiceOf(c.timing, c.key, c.time, rest, c.now); choice != c.choice || at != c.at {
			t.Errorf("with another Quick, ChoiceOf(%v, %d, %d, %q, %d) = %d, %d", c.timing, c.key, c.time, c.rest, c.now, choice, at)
		}
	}
}

func checkChoice(t *testing.T, x impl.Timing, key int, time int, rest []impl.Event, now int) {
	t.Helper()
	choice, at := impl.ChoiceOf(x, key, time, rest, now)
	if want, wantAt := choiceByTheText(x, key, time, rest, now); choice != want || at != wantAt {
		t.Fatalf("ChoiceOf(%v, %d, %d, %v, %d) = %d, %d, want %d, %d", x, key, time, rest, now, choice, at, want, wantAt)
	}
}

func TestChoiceOfBadArguments(t *testing.T) {
	lists := append(badEventLists(), validEventLists()...)
	for _, l := range lists {
		for _, flavor := range flavors {
			for _, key := range []int{0, 3, 31} {
				for _, term := range []int{1, 7, 1000} {
					checkChoice(t, timing(term, 0, flavor), key, 0, l, 4)
					checkChoice(t, timing(term, 0, flavor), key, 3, l, 1000)
				}
			}
		}
	}
	for _, l := range [][]impl.Event{nil, {up(5, 3)}, {down(5, 4)}, {down(5, 4), up(6, 4)}, {up(5000, 4)}} {
		for _, x := range badTimings() {
			for _, now := range []int{0, 20, impl.MaxTime, math.MaxInt} {
				if choice, at := impl.ChoiceOf(x, 3, 0, l, now); choice != impl.ChoiceNone || at != 0 {
					t.Errorf("ChoiceOf(%v, 3, 0, %v, %d) = %d, %d", x, l, now, choice, at)
				}
			}
		}
		for _, time := range append([]int{impl.MaxTime + 1, impl.MaxTime + 1000}, noNumbers...) {
			for _, now := range []int{0, 20, impl.MaxTime, math.MaxInt} {
				if choice, at := impl.ChoiceOf(timing(10, 0, impl.HoldOnPress), 3, time, l, now); choice != impl.ChoiceNone || at != 0 {
					t.Errorf("ChoiceOf at %d with %v up to %d = %d, %d", time, l, now, choice, at)
				}
			}
		}
		for _, n := range append([]int{29, 30, 31, 32, 67, 1000}, noNumbers...) {
			checkChoice(t, timing(10, 0, impl.HoldOnTap), n, 20, l, 29)
			checkChoice(t, timing(10, 0, impl.HoldOnTap), 3, 20, l, n)
		}
	}
	// There is no limit to the number of events.
	long := append(slices.Repeat([]impl.Event{down(1, 4)}, 100000), up(2, 3))
	if choice, at := impl.ChoiceOf(timing(10, 0, impl.HoldOnTap), 3, 0, long, 2); choice != impl.ChoiceTap || at != 2 {
		t.Errorf("ChoiceOf with %d events = %d, %d", len(long), choice, at)
	}
}

// All lists of up to three events are tried, valid or not, in order or not.
func TestChoiceOfAllShortLists(t *testing.T) {
	all := []impl.Event{{Time: 1, Key: -1}, {Time: -1, Key: 1, Down: true}}
	for time := range 4 {
		for _, key := range []int{0, 1, 31} {
			all = append(all, down(time, key), up(time, key))
		}
	}
	var check func(l []impl.Event)
	check = func(l []impl.Event) {
		for _, flavor := range flavors {
			for term := 1; term <= 2; term++ {
				for _, now := range []int{1, 3} {
					checkChoice(t, timing(term, 0, flavor), 0, 1, l, now)
					checkChoice(t, timing(term, 0, flavor), 1, 0, l, now)
				}
			}
		}
		if len(l) < 3 {
			for _, e := range all {
				check(append(l[:len(l):len(l)], e))
			}
		}
	}
	check(nil)
}

func TestPlayEventsRejects(t *testing.T) {
	d := someDecider(t)
	fine := eventsOf(t, "26+1 28-1")
	if _, _, ok := checkPlay(t, d, fine, 28); !ok {
		t.Fatalf("PlayEvents(%v, %v, 28) fails", d, fine)
	}
	check := func(d impl.Decider, l []impl.Event, end int) {
		t.Helper()
		if got, sent, ok := checkPlay(t, d, l, end); ok || len(sent) != 0 || !isZeroDecider(got) {
			t.Errorf("PlayEvents(%v, %v, %d) = %v, %v, %v", d, l, end, got, sent, ok)
		}
	}
	for _, bad := range badDeciders(t) {
		check(bad, nil, 26)
		check(bad, nil, impl.MaxTime)
		check(bad, fine, 28)
	}
	for _, end := range append([]int{0, 24, 25, impl.MaxTime + 1, impl.MaxTime + 1000}, noNumbers...) {
		check(d, nil, end)
		check(d, fine, end)
	}
	for _, text := range []string{
		// the first is before Now, or the last behind the end
		"25+1", "25+1 27-1", "0+1", "26+1 31-1", "31+1", "26+1 1000000-1",
		// no such key, times that decrease
		"26+4", "26+31", "26+1 27+4", "28+1 27-1", "27+1 26-1",
		// what cannot come next, by what is held, what waits and what is new
		"26-1", "26+0", "26+2", "26-3", "26+1 27+1", "26-0 27-0", "26+3 27+3", "26-2 27-2", "26+1 27-1 28-1",
	} {
		check(d, eventsOf(t, text), 30)
	}
	for _, x := range badEvents() {
		check(d, []impl.Event{x}, 30)
		check(d, []impl.Event{down(26, 1), x}, 30)
		check(d, []impl.Event{x, down(26, 1)}, 30)
		check(d, []impl.Event{x}, impl.MaxTime)
	}
}

func TestPlayEventsUpToTheLimits(t *testing.T) {
	d := deciderOf(t, "a S/b", timing(10, 0, impl.HoldByTerm))
	for n := range 70 {
		_, sent, ok := checkPlay(t, d, taps(5, 0, n), 5)
		if ok != (n <= 64) || ok && len(sent) != n {
			t.Errorf("PlayEvents of %d events = %d reports, %v", n, len(sent), ok)
		}
	}
	// Events that wait count too, though what is new would make them go.
	waits, _, _ := checkPlay(t, d, append(eventsOf(t, "0+1"), taps(5, 0, 60)...), 9)
	if len(waits.Queue) != 61 {
		t.Fatalf("%d events wait", len(waits.Queue))
	}
	for n := range 6 {
		_, sent, ok := checkPlay(t, waits, taps(50, 0, n), 50)
		if ok != (n <= 3) || ok && len(sent) != n+61 {
			t.Errorf("PlayEvents of %d events behind 61 = %d reports, %v", n, len(sent), ok)
		}
	}
	if _, sent, ok := checkPlay(t, d, slices.Repeat(taps(5, 0, 2), 50000), 5); ok || len(sent) != 0 {
		t.Errorf("PlayEvents of 100000 events = %d reports, %v", len(sent), ok)
	}
	late, _, ok := checkPlay(t, d, taps(impl.MaxTime, 0, 3), impl.MaxTime)
	if !ok || late.Now != impl.MaxTime || late.Clock != impl.MaxTime {
		t.Errorf("at the end of all times, PlayEvents = %v, %v", late, ok)
	}
	checkPlay(t, late, taps(impl.MaxTime, 1, 2), impl.MaxTime)
}

// A press or release happens at the clock, if this is ahead of its event.
func TestClock(t *testing.T) {
	d := deciderOf(t, "a S/b", timing(10, 5, impl.HoldByTerm))
	d.Now, d.Clock = 60, 40
	for _, c := range []struct {
		queue       string
		tapped, at  int
		sent, state string
		clock       int
	}{
		{"", 0, 0, "", "", 40},
		{"20+0", 0, 0, "40:a", "0=a", 40},
		{"20+0 39-0", 0, 0, "40:a 40:", "", 40},
		{"20+0 41-0", 0, 0, "40:a 41:", "", 41},
		{"40+0 60-0", 0, 0, "40:a 60:", "", 60},
		{"20+1 29-1", 0, 0, "40:b 40:", "tapped:1@29", 40},
		{"20+1 30-1", 0, 0, "40S: 40:", "", 40},
		{"20+1 42-1", 0, 0, "40S: 42:", "", 42},
		{"35+1", 0, 0, "45S:", "1=S-", 45},
		{"50+1", 0, 0, "60S:", "1=S-", 60},
		{"51+1", 0, 0, "", "51+1", 40},
		// a key that was tapped and went up at a time
		{"54+1", 2, 50, "54:b", "tapped:1@54 1=b", 54},
		{"55+1", 2, 50, "", "55+1 tapped:1@50", 40},
		{"55+1", 2, 51, "55:b", "tapped:1@55 1=b", 55},
		{"55+1", 1, 51, "", "55+1 tapped:0@51", 40},
		{"55+1", 0, 51, "", "55+1", 40},
		{"20+1", 2, 60, "40:b", "tapped:1@20 1=b", 40},
	} {
		x := copyOfDecider(d)
		x.Queue, x.Tapped, x.TappedAt = eventsOf(t, c.queue), c.tapped, c.at
		got, sent, ok := checkPlay(t, x, nil, 60)
		if !ok || textOfSent(sent) != c.sent || stateOfDecider(got) != c.state || got.Clock != c.clock {
			t.Errorf("with %q, %v becomes %q at %d and sends %q, %v, want %q at %d and %q", c.queue, x, stateOfDecider(got), got.Clock, textOfSent(sent), ok, c.state, c.clock, c.sent)
		}
	}
	// With Quick 0, only a last event that is later than the key is less than Quick before it.
	d.Timing.Quick, d.Queue, d.Tapped = 0, eventsOf(t, "55+1"), 2
	for at := 50; at <= 60; at++ {
		d.TappedAt = at
		want := ""
		if at > 55 {
			want = "55:b"
		}
		if _, sent, ok := checkPlay(t, d, nil, 60); !ok || textOfSent(sent) != want {
			t.Errorf("with Quick 0 and a last event at %d, %q is sent, %v, want %q", at, textOfSent(sent), ok, want)
		}
	}
}

// What was tapped or held before stays held; a key that went down as another one goes up all the same.
func TestKeysThatAreHeldBefore(t *testing.T) {
	d := deciderOf(t, "S/a 1/b c | pass pass d", timing(10, 5, impl.HoldOnTap))
	d.Engine.Held = []impl.Held{{Key: 1, Action: impl.Action{Kind: impl.ActMomentary, N: 1}}, {Key: 0, Action: letterA}}
	for _, c := range []struct{ events, sent, state string }{
		{"3-0", "3:", "1=mo:1"},
		{"3-1", "", "0=a"},
		{"3+2 4-1 5-2", "3:a,d 5:a", "0=a"},
		{"3-1 4+2", "4:a,c", "0=a 2=c"},
		{"3-0 4+0", "3:", "4+0 1=mo:1"},
		{"3-0 4+0 5-1", "3:", "4+0 5-1 1=mo:1"},
		{"3-0 4+0 5-1 6-0", "3: 6:a 6:", "tapped:0@6"},
		{"3-0 4+0 5-1 6+2 7-2", "3: 7S: 7S:c 7S:", "0=S-"},
	} {
		got, sent, ok := checkPlay(t, d, eventsOf(t, c.events), 9)
		if !ok || textOfSent(sent) != c.sent || stateOfDecider(got) != c.state {
			t.Errorf("%q of %v becomes %q and sends %q, %v, want %q and %q", c.events, d, stateOfDecider(got), textOfSent(sent), ok, c.state, c.sent)
		}
	}
}

func TestFeedEventAndWaitUntil(t *testing.T) {
	source := rand.New(rand.NewSource(103))
	deciders := append(badDeciders(t), someDecider(t))
	for _, e := range randomEngines(100) {
		deciders = append(deciders, anyDecider(source, e))
	}
	events := append(badEvents(), eventsOf(t, "0+1 25+1 26+1 26-1 27-0 27+0 26+4 1000000+1 70+0 70+1 70-1 70+2")...)
	times := append([]int{0, 24, 25, 26, 27, 30, 61, 100, impl.MaxTime, impl.MaxTime + 1}, noNumbers...)
	fed, waited := 0, 0
	for _, d := range deciders {
		for _, x := range events {
			got, l, ok := impl.FeedEvent(d, x)
			want, sent, fine := playByTheText(d, []impl.Event{x}, x.Time)
			checkPlayed(t, d, fmt.Sprintf("FeedEvent %v", x), got, l, ok, want, sent, fine)
			if ok {
				fed++
			}
		}
		for _, time := range times {
			got, l, ok := impl.WaitUntil(d, time)
			want, sent, fine := playByTheText(d, nil, time)
			checkPlayed(t, d, fmt.Sprintf("WaitUntil %d", time), got, l, ok, want, sent, fine)
			if ok {
				waited++
			}
		}
	}
	if fed < 100 || waited < 100 {
		t.Errorf("only %d events are fed and %d times are waited for", fed, waited)
	}
}

func TestSameSent(t *testing.T) {
	sent := func(time int, r impl.Report) impl.Sent { return impl.Sent{Time: time, Report: r} }
	a, ab, shift := impl.Report{Keys: []int{1}}, impl.Report{Keys: []int{1, 2}}, impl.Report{Mods: 2, Keys: []int{1}}
	lists := [][]impl.Sent{
		nil,
		{sent(0, impl.Report{})},
		{sent(5, impl.Report{})},
		{sent(-5, impl.Report{})},
		{sent(5, a)},
		{sent(6, a)},
		{sent(5, ab)},
		{sent(5, shift)},
		{sent(5, a), sent(5, ab)},
		{sent(5, ab), sent(5, a)},
		{sent(5, a), sent(6, ab)},
		{sent(4, a), sent(5, ab)},
		{sent(5, a), sent(5, a)},
		{sent(5, a), sent(5, a), sent(5, a)},
		{sent(5, a), sent(5, ab), sent(5, a)},
		// reports that are not valid are compared all the same
		{sent(5, impl.Report{Mods: 16, Keys: []int{2, 1}})},
		{sent(5, impl.Report{Mods: 16, Keys: []int{1, 2}})},
		{sent(5, impl.Report{Mods: -1, Keys: []int{99}})},
		{sent(math.MaxInt, a)},
		{sent(math.MinInt, a)},
		slices.Repeat([]impl.Sent{sent(5, a)}, 1000),
		append(slices.Repeat([]impl.Sent{sent(5, a)}, 999), sent(5, ab)),
	}
	for i, x := range lists {
		for k, y := range lists {
			if got := impl.SameSent(x, y); got != (i == k) {
				t.Errorf("SameSent(%v, %v) = %v", x, y, got)
			}
		}
		var c []impl.Sent
		for _, s := range x {
			c = append(c, sent(s.Time, impl.Report{Mods: s.Report.Mods, Keys: slices.Clone(s.Report.Keys)}))
		}
		if !impl.SameSent(x, c) || !impl.SameSent(c, x) {
			t.Errorf("SameSent(%v, %v) = false", x, c)
		}
	}
	if !impl.SameSent(nil, []impl.Sent{}) || !impl.SameSent([]impl.Sent{sent(1, impl.Report{})}, []impl.Sent{sent(1, impl.Report{Keys: []int{}})}) {
		t.Errorf("a list without elements is not the same as none")
	}
	source := rand.New(rand.NewSource(104))
	reports := someReports()
	for range 3000 {
		x := []impl.Sent{sent(source.Intn(2), reports[source.Intn(3)]), sent(source.Intn(2), reports[source.Intn(3)])}[:source.Intn(3)]
		y := []impl.Sent{sent(source.Intn(2), reports[source.Intn(3)]), sent(source.Intn(2), reports[source.Intn(3)])}[:source.Intn(3)]
		if got, want := impl.SameSent(x, y), sameSent(x, y); got != want {
			t.Fatalf("SameSent(%v, %v) = %v, want %v", x, y, got, want)
		}
	}
}

// eachList calls a function with all lists of up to n events of these keys, with up to a gap between them.
func eachList(keys int, n int, gap int, do func(l []impl.Event)) {
	var grow func(l []impl.Event, held int)
	grow = func(l []impl.Event, held int) {
		do(l)
		if len(l) == n {
			return
		}
		from := 0
		if len(l) > 0 {
			from = l[len(l)-1].Time
		}
		for key := range keys {
			for time := from; time <= from+gap; time++ {
				// The first event need not come late: all that counts is the time from it on.
				if len(l) == 0 && time > 0 {
					break
				}
				next := impl.Event{Time: time, Key: key, Down: held>>key%2 == 0}
				grow(append(l[:len(l):len(l)], next), held^1<<key)
			}
		}
	}
	grow(nil, 0)
}

// Each list is played at once and event by event.
func TestPromise8OfAllShortLists(t *testing.T) {
	lists := 0
	for _, x := range []struct {
		keymap string
		events int
		timing impl.Timing
	}{
		{"S/a 1/b c | pass pass d", 4, timing(2, 0, impl.HoldByTerm)},
		{"S/a 1/b c | pass pass d", 4, timing(3, 2, impl.HoldOnPress)},
		{"S/a 1/b c | pass pass d", 4, timing(3, 2, impl.HoldOnTap)},
		{"S/a mo:1 | C/b pass", 5, timing(2, 1, impl.HoldByTerm)},
		{"S/a C/b", 5, timing(2, 2, impl.HoldByTerm)},
		{"S/a C/b", 5, timing(1, 1, impl.HoldOnPress)},
		{"S/a C/b", 5, timing(3, 1, impl.HoldOnTap)},
	} {
		start := deciderOf(t, x.keymap, x.timing)
		eachList(start.Engine.Map.Keys, x.events, 2, func(l []impl.Event) {
			last := 0
			if len(l) > 0 {
				last = l[len(l)-1].Time
			}
			// With no time behind the last event, keys may still wait.
			for _, end := range []int{last, last + 3} {
				want, sent, _ := checkPlay(t, start, l, end)
				got, fed := feedAll(t, start, l, end)
				checkPlayed(t, start, fmt.Sprintf("FeedEvent %v", l), got, fed, true, want, sent, true)
			}
			lists++
		})
	}
	if lists < 10000 {
		t.Errorf("there are %d lists", lists)
	}
}

// isHeldByTheText looks at all events, and tells whether the key of event i is held, and when this is known.
func isHeldByTheText(x impl.Timing, l []impl.Event, i int) (bool, int) {
	end := l[i].Time + x.Term
	wentDown := map[int]bool{}
	for _, e := range l[i+1:] {
		switch {
		case e.Time >= end:
			return true, end
		case e.Key == l[i].Key:
			return false, e.Time
		case e.Down && x.Flavor == impl.HoldOnPress:
			return true, e.Time
		case e.Down:
			wentDown[e.Key] = true
		case wentDown[e.Key] && x.Flavor == impl.HoldOnTap:
			return true, e.Time
		}
	}
	return true, end
}

// isQuickByTheText reports whether the last key ahead of event i that could be tapped was this one, was tapped, and was let go shortly before.
func isQuickByTheText(x impl.Timing, l []impl.Event, tapped []bool, i int, isPlain func(key int) bool) bool {
	for k := i - 1; k >= 0; k-- {
		if l[k].Down && !isPlain(l[k].Key) {
			last := k
			for at := k; at < i; at++ {
				if l[at].Key == l[i].Key {
					last = at
				}
			}
			return l[k].Key == l[i].Key && tapped[k] && l[i].Time-l[last].Time < x.Quick
		}
	}
	return false
}

// knownByTheText presses and lets go the keys of a keymap with one layer in the order of the events, where all of these are known.
func knownByTheText(t *testing.T, e impl.Engine, x impl.Timing, l []impl.Event) (impl.Engine, []impl.Sent) {
	t.Helper()
	isPlain := func(key int) bool {
		kind := e.Map.Layers[0][key].Kind
		return kind != impl.ActModTap && kind != impl.ActLayerTap
	}
	var all []impl.Sent
	clock := 0
	tapped := make([]bool, len(l))
	for i, event := range l {
		var reports []impl.Report
		var ok bool
		at, hold := event.Time, false
		if event.Down && !isPlain(event.Key) && !isQuickByTheText(x, l, tapped, i, isPlain) {
			hold, at = isHeldByTheText(x, l, i)
		}
		tapped[i] = !hold
		if event.Down {
			e, reports, ok = impl.Press(e, event.Key, hold)
		} else {
			e, reports, ok = impl.Release(e, event.Key)
		}
		if !ok {
			t.Fatalf("event %d of %v cannot be performed", i, l)
		}
		clock = max(clock, at)
		for _, r := range reports {
			all = append(all, impl.Sent{Time: clock, Report: r})
		}
	}
	return e, all
}

// checkKnown checks that what is decided on the way is decided as if all events were known.
func checkKnown(t *testing.T, start impl.Decider, l []impl.Event) {
	t.Helper()
	end := start.Timing.Term
	if len(l) > 0 {
		end += l[len(l)-1].Time
	}
	d, fed := feedAll(t, start, l, end)
	e, sent := knownByTheText(t, start.Engine, start.Timing, l)
	if !sameSent(fed, sent) || !sameEngine(d.Engine, e) || len(d.Queue) != 0 {
		t.Fatalf("%v of %v sends %s, want %s", l, start, textOfSent(fed), textOfSent(sent))
	}
}

func TestPromise8AsWithAllEventsKnown(t *testing.T) {
	for _, x := range []impl.Timing{timing(2, 0, 0), timing(2, 2, 0), timing(2, 1, 1), timing(3, 0, 1), timing(3, 3, 2), timing(2, 0, 2)} {
		for _, keymap := range []string{"S/a C/b", "S/a b"} {
			start := deciderOf(t, keymap, x)
			eachList(2, 5, 2, func(l []impl.Event) { checkKnown(t, start, l) })
		}
	}
	source := rand.New(rand.NewSource(105))
	made := engineOf(t, "S/a C/b A/c G/d e f S- once:C caps macro:0", "d=A- t=g u=A-")
	for range 1500 {
		start := newDecider(t, made, randomTiming(source))
		checkKnown(t, start, randomQueue(source, made, nil, source.Intn(65), source.Intn(5), 1+source.Intn(8)))
	}
}

// splitAndPlay plays events in parts, with waits between them.
func splitAndPlay(t *testing.T, source *rand.Rand, d impl.Decider, l []impl.Event, end int) (impl.Decider, []impl.Sent) {
	t.Helper()
	var all []impl.Sent
	for len(l) > 0 || d.Now < end {
		n := source.Intn(min(len(l), 6) + 1)
		from, to := d.Now, end
		if n > 0 {
			from = l[n-1].Time
		}
		if n < len(l) {
			to = l[n].Time
		}
		until := from + source.Intn(to-from+1)
		if n == 0 && until == d.Now {
			until = to
		}
		next, sent, ok := impl.PlayEvents(d, l[:n], until)
		if !ok {
			t.Fatalf("PlayEvents(%v, %v, %d) fails", d, l[:n], until)
		}
		d, all, l = next, append(all, sent...), l[n:]
	}
	return d, all
}

func TestPromise8OnTheWay(t *testing.T) {
	source := rand.New(rand.NewSource(106))
	waited, sentAll := 0, 0
	for i, e := range randomEngines(600) {
		d := newDecider(t, withTapHolds(source, e), randomTiming(source))
		if i%2 == 0 {
			d = anyDecider(source, e)
		}
		gap := []int{1, 4, 15, 400}[source.Intn(4)]
		l := randomQueue(source, d.Engine, d.Queue, source.Intn(64-len(d.Queue)), d.Now, gap)
		end := d.Now + source.Intn(20)
		if len(l) > 0 {
			end = l[len(l)-1].Time + source.Intn(20)
		}
		want, sent, ok := checkPlay(t, d, l, end)
		if !ok {
			t.Fatalf("PlayEvents(%v, %v, %d) fails", d, l, end)
		}
		checkOnTheWay(t, d, l, end)
		got, parts := splitAndPlay(t, source, d, l, end)
		checkPlayed(t, d, fmt.Sprintf("PlayEvents %v in parts up to %d", l, end), got, parts, true, want, sent, true)
		waited += len(want.Queue)
		sentAll += len(sent)
	}
	if waited < 100 || sentAll < 1000 {
		t.Errorf("only %d events wait at the end, and %d reports are sent", waited, sentAll)
	}
}

// keysHeldAfter returns the keys that are held after the events, in the order in which they went down.
func keysHeldAfter(held []impl.Held, l []impl.Event) []int {
	var keys []int
	for _, h := range held {
		keys = append(keys, h.Key)
	}
	for _, e := range l {
		if e.Down {
			keys = append(keys, e.Key)
		} else {
			keys = slices.DeleteFunc(keys, func(key int) bool { return key == e.Key })
		}
	}
	return keys
}

func TestPromise8InOrder(t *testing.T) {
	source := rand.New(rand.NewSource(107))
	for i, e := range randomEngines(400) {
		d := newDecider(t, withTapHolds(source, e), randomTiming(source))
		if i%2 == 0 {
			d = anyDecider(source, e)
		}
		fed := slices.Clone(d.Queue)
		held := d.Engine.Held
		for _, x := range randomQueue(source, d.Engine, d.Queue, 20, d.Now, 5) {
			next, sent, ok := impl.FeedEvent(d, x)
			if !ok {
				t.Fatalf("FeedEvent(%v, %v) fails", d, x)
			}
			fed = append(fed, x)
			done := len(fed) - len(next.Queue)
			if done < 0 || !slices.Equal(next.Queue, fed[done:]) {
				t.Fatalf("of %v, there wait %v", fed, next.Queue)
			}
			var keys []int
			for _, h := range next.Engine.Held {
				keys = append(keys, h.Key)
			}
			if want := keysHeldAfter(held, fed[:done]); !slices.Equal(keys, want) {
				t.Fatalf("after %v, the keys %v are held, want %v", fed[:done], keys, want)
			}
			time := d.Clock
			for _, s := range sent {
				if s.Time < time || s.Time > next.Clock || next.Clock > x.Time {
					t.Fatalf("at %d with the clock at %d, %s is sent", x.Time, next.Clock, textOfSent(sent))
				}
				time = s.Time
			}
			d = next
		}
	}
}

// Millisecond by millisecond, each report is sent at once when it is known, and no key waits longer than the term.
func TestPromise8WithinTheTerm(t *testing.T) {
	source := rand.New(rand.NewSource(108))
	open := 0
	for _, e := range randomEngines(250) {
		d := newDecider(t, withTapHolds(source, e), randomTiming(source))
		l := randomQueue(source, d.Engine, nil, 12, source.Intn(5), 5)
		for time := 0; len(l) > 0 || len(d.Queue) > 0; time++ {
			var all []impl.Sent
			for len(l) > 0 && l[0].Time == time {
				next, sent, ok := impl.FeedEvent(d, l[0])
				if !ok {
					t.Fatalf("FeedEvent(%v, %v) fails", d, l[0])
				}
				d, all, l = next, append(all, sent...), l[1:]
			}
			next, sent, ok := impl.WaitUntil(d, time)
			if !ok {
				t.Fatalf("WaitUntil(%v, %d) fails", d, time)
			}
			d = next
			for _, s := range append(all, sent...) {
				if s.Time != time {
					t.Fatalf("at %d, %v is sent for %d", time, s.Report, s.Time)
				}
			}
			if len(d.Queue) > 0 {
				first := d.Queue[0]
				if !first.Down || time >= first.Time+d.Timing.Term {
					t.Fatalf("at %d with %v, there wait %v", time, d.Timing, d.Queue)
				}
				open++
			}
		}
	}
	if open < 500 {
		t.Errorf("keys wait for only %d milliseconds", open)
	}
}

// When all keys are let go and the term is over, the last report has no key.
func TestDecidersLetGoOfAllKeys(t *testing.T) {
	source := rand.New(rand.NewSource(109))
	for _, e := range randomEngines(200) {
		d := newDecider(t, withTapHolds(source, e), randomTiming(source))
		l := randomQueue(source, d.Engine, nil, 20, 0, 5)
		released, ok := impl.ReleaseAll(l, l[len(l)-1].Time+source.Intn(9))
		if !ok {
			t.Fatalf("ReleaseAll(%v) fails", l)
		}
		end := released[len(released)-1].Time
		got, sent, ok := checkPlay(t, d, released, end)
		if !ok || len(got.Queue) != 0 || len(got.Engine.Held) != 0 || len(sent) > 0 && !isZeroReport(sent[len(sent)-1].Report) {
			t.Fatalf("%v of %v sends %s and becomes %v, %v", released, d, textOfSent(sent), got, ok)
		}
	}
}

// roomyDecider returns the decider with more capacity in each list.
func roomyDecider(d impl.Decider) impl.Decider {
	d.Engine = roomyEngine(d.Engine)
	d.Queue = roomy(d.Queue, impl.Event{Time: -7})
	return d
}

func TestDecidersAreNewMemory(t *testing.T) {
	source := rand.New(rand.NewSource(110))
	deciders := append(badDeciders(t), someDecider(t))
	for _, e := range randomEngines(200) {
		deciders = append(deciders, anyDecider(source, e))
	}
	for _, d := range deciders {
		// To write down a very long queue would take long.
		if len(d.Queue) > 100 {
			continue
		}
		d = roomyDecider(d)
		var l []impl.Event
		if impl.IsDecider(d) {
			l = randomQueue(source, d.Engine, d.Queue, 1+source.Intn(6), d.Now, 6)
		}
		l = roomy(l, impl.Event{Time: -7})
		before, events := wholeOf(reflect.ValueOf(d)), wholeOf(reflect.ValueOf(l))
		results := []any{d, l}
		take := func(next impl.Decider, sent []impl.Sent, ok bool) { results = append(results, next, sent) }
		made, _ := impl.NewDecider(d.Engine, d.Timing)
		results = append(results, made)
		impl.IsDecider(d)
		impl.ChoiceOf(d.Timing, 0, 0, l, d.Now)
		take(impl.PlayEvents(d, nil, d.Now))
		take(impl.WaitUntil(d, d.Now+100))
		if len(l) > 0 {
			take(impl.FeedEvent(d, l[0]))
			take(impl.PlayEvents(d, l, l[len(l)-1].Time))
			take(impl.PlayEvents(d, l, l[len(l)-1].Time+20))
			take(impl.PlayEvents(d, l, l[0].Time-1))
			take(impl.PlayEvents(d, append(l[:len(l):len(l)], down(-1, -1)), impl.MaxTime))
		}
		checkApart(t, results...)
		if after := wholeOf(reflect.ValueOf(d)); after != before {
			t.Fatalf("the decider has become %s, it was %s", after, before)
		}
		if after := wholeOf(reflect.ValueOf(l)); after != events {
			t.Fatalf("the events have become %s, they were %s", after, events)
		}
	}
}

func TestSentListsStayAsTheyAre(t *testing.T) {
	source := rand.New(rand.NewSource(111))
	for _, r := range someReports() {
		a := roomy([]impl.Sent{{Time: 5, Report: r}, {Time: source.Intn(9), Report: r}}, impl.Sent{Time: -7})
		b := roomy([]impl.Sent{{Time: 5, Report: r}, {Time: 3}}, impl.Sent{Time: -7})
		before := wholeOf(reflect.ValueOf(a)) + wholeOf(reflect.ValueOf(b))
		impl.SameSent(a, b)
		impl.SameSent(a, a)
		impl.SameSent(b, a[:1])
		if after := wholeOf(reflect.ValueOf(a)) + wholeOf(reflect.ValueOf(b)); after != before {
			t.Fatalf("the lists have become %s, they were %s", after, before)
		}
	}
}

// What is done to a result shows neither in the argument nor in what comes later.
func TestDecidersStayAsTheyAre(t *testing.T) {
	d := deciderOf(t, "S/a 1/b c macro:0 | pass pass d pass", timing(10, 5, impl.HoldByTerm), "t=z")
	d, _, _ = impl.PlayEvents(d, eventsOf(t, "0+2 1+1 2+0"), 5)
	before := copyOfDecider(d)
	l := eventsOf(t, "6+3 7-3 8-1 20-2")
	want, sent, _ := checkPlay(t, d, l, 30)
	kept, text := copyOfDecider(want), textOfSent(sent)
	got, more, ok := impl.PlayEvents(d, l, 30)
	if !ok || len(more) == 0 || len(want.Engine.Held) == 0 {
		t.Fatalf("PlayEvents(%v, %v, 30) = %v, %v, %v", d, l, got, more, ok)
	}
	got.Engine.Map.Layers[0][0], got.Engine.Macros[0][0], got.Engine.Held[0] = passes, impl.Step{}, impl.Held{}
	for _, s := range more {
		overwrite(s.Report.Keys)
	}
	clear(more)
	waits, _, _ := impl.PlayEvents(d, l[:1], 6)
	overwriteEvents(waits.Queue)
	if !sameDecider(d, before) || !sameDecider(want, kept) || textOfSent(sent) != text {
		t.Errorf("with another result changed, PlayEvents gave %v, %s of %v", want, textOfSent(sent), d)
	}
	checkPlay(t, d, l, 30)
	if made, ok := impl.NewDecider(d.Engine, d.Timing); ok {
		made.Engine.Map.Layers[0][0], made.Engine.Macros[0][0], made.Engine.Held[0] = passes, impl.Step{}, impl.Held{}
	}
	if !sameDecider(d, before) {
		t.Errorf("with a decider made of its engine changed, the decider is %v", d)
	}
}
