package tests

import (
	"math"
	"slices"
	"strings"
	"testing"

	"loop.example/g03414/impl"
)

const eventKeys = impl.MaxKey + 1

func down(time int, key int) impl.Event { return impl.Event{Time: time, Key: key, Down: true} }

func up(time int, key int) impl.Event { return impl.Event{Time: time, Key: key} }

// taps are n events of one key that goes down and up again and again at a time.
func taps(time int, key int, n int) []impl.Event {
	l := make([]impl.Event, n)
	for i := range l {
		l[i] = impl.Event{Time: time, Key: key, Down: i%2 == 0}
	}
	return l
}

// downs are events by which the keys from one to another one go down at a time.
func downs(time int, from int, to int) []impl.Event {
	var l []impl.Event
	for key := from; key <= to; key++ {
		l = append(l, down(time, key))
	}
	return l
}

func ups(time int, from int, to int) []impl.Event {
	var l []impl.Event
	for key := from; key <= to; key++ {
		l = append(l, up(time, key))
	}
	return l
}

// badEvents are each invalid by themselves.
func badEvents() []impl.Event {
	var l []impl.Event
	for _, isDown := range []bool{true, false} {
		for _, time := range []int{-1, impl.MaxTime + 1, math.MaxInt, math.MinInt} {
			l = append(l, impl.Event{Time: time, Key: 3, Down: isDown})
		}
		for _, key := range []int{-1, impl.MaxKey + 1, 63, 64, math.MaxInt, math.MinInt} {
			l = append(l, impl.Event{Time: 3, Key: key, Down: isDown})
		}
		l = append(l, impl.Event{Time: -1, Key: -1, Down: isDown})
	}
	return l
}

func validEventLists() [][]impl.Event {
	return [][]impl.Event{
		nil,
		{},
		{down(0, 0)},
		{down(impl.MaxTime, impl.MaxKey)},
		{down(0, 0), up(2, 0), down(2, 1)},
		{down(3, 1), down(4, 0)},
		// two changes in one millisecond: of one key, and of two keys in any order
		{down(5, 3), up(5, 3)},
		{down(5, 3), down(5, 1)},
		{down(5, 1), down(5, 3)},
		{down(5, 3), down(5, 1), up(5, 3), up(5, 1)},
		{down(1, 3), up(5, 3), down(5, 3)},
		{down(0, 7), up(0, 7), down(0, 7), up(0, 7), down(0, 7)},
		{down(0, 23), down(1, impl.FirstExtra), up(1, 23), up(impl.MaxTime, impl.FirstExtra)},
		downs(9, 0, impl.MaxKey),
		taps(0, 31, impl.MaxEvents),
		taps(impl.MaxTime, 0, impl.MaxEvents-1),
		append(downs(7, 1, impl.MaxKey), taps(8, 0, 33)...),
	}
}

func badEventLists() [][]impl.Event {
	l := [][]impl.Event{
		// up first, twice down, twice up
		{up(0, 0)},
		{up(5, 31)},
		{down(0, 0), up(0, 1)},
		{down(0, 0), down(0, 0)},
		{down(0, 31), down(4, 31)},
		{down(0, 0), up(1, 0), up(2, 0)},
		{down(0, 0), up(1, 0), up(1, 0)},
		{down(0, 0), down(1, 1), up(2, 0), down(3, 1)},
		{down(0, 0), down(1, 1), down(2, 0)},
		// times that decrease, of one key and of two
		{down(1, 0), up(0, 0)},
		{down(1, 0), down(0, 1)},
		{down(3, 0), up(5, 0), down(4, 1)},
		{down(impl.MaxTime, 0), down(impl.MaxTime-1, 1)},
		{down(0, 0), down(2, 1), down(1, 2), down(3, 3)},
		// more events than there may be, fine by themselves
		taps(0, 0, impl.MaxEvents+1),
		taps(4, 31, impl.MaxEvents+2),
		taps(4, 31, 10*impl.MaxEvents),
		slices.Concat(downs(7, 0, impl.MaxKey), ups(8, 0, impl.MaxKey), downs(9, 5, 5)),
	}
	for _, e := range badEvents() {
		l = append(l, []impl.Event{e}, []impl.Event{down(0, 0), e}, []impl.Event{e, down(impl.MaxTime, 0)})
	}
	return l
}

func TestIsEvent(t *testing.T) {
	for _, isDown := range []bool{true, false} {
		for _, time := range []int{0, 1, 999, impl.MaxTime - 1, impl.MaxTime} {
			for key := range eventKeys {
				if e := (impl.Event{Time: time, Key: key, Down: isDown}); !impl.IsEvent(e) {
					t.Errorf("IsEvent(%v) = false", e)
				}
			}
		}
	}
	for _, e := range badEvents() {
		if impl.IsEvent(e) {
			t.Errorf("IsEvent(%v) = true", e)
		}
	}
}

func TestIsEvents(t *testing.T) {
	for _, l := range validEventLists() {
		if !impl.IsEvents(l) {
			t.Errorf("IsEvents(%v) = false", l)
		}
	}
	for _, l := range badEventLists() {
		if impl.IsEvents(l) {
			t.Errorf("IsEvents(%v) = true", l)
		}
	}
}

func TestEventsThatAreNotValid(t *testing.T) {
	for _, l := range badEventLists() {
		if got := impl.HeldAfter(l); got != 0 {
			t.Errorf("HeldAfter(%v) = %d, want 0", l, got)
		}
		for _, n := range []int{0, 1, 10, impl.MaxSamples} {
			if got, ok := impl.MasksOf(l, n); ok || len(got) != 0 {
				t.Errorf("MasksOf(%v, %d) = %v, %v, want no masks and false", l, n, got, ok)
			}
		}
		for _, time := range []int{0, 10, impl.MaxTime} {
			if got, ok := impl.ReleaseAll(l, time); ok || len(got) != 0 {
				t.Errorf("ReleaseAll(%v, %d) = %v, %v, want no events and false", l, time, got, ok)
			}
		}
		if got := impl.FormatEvents(l); got != "" {
			t.Errorf("FormatEvents(%v) = %q, want none", l, got)
		}
	}
}

func TestHeldAfter(t *testing.T) {
	cases := []struct {
		l    []impl.Event
		want int
	}{
		{nil, 0},
		{[]impl.Event{down(0, 0)}, 1},
		{[]impl.Event{down(7, 31)}, 1 << 31},
		{[]impl.Event{down(0, 0), up(2, 0), down(2, 1)}, 2},
		{[]impl.Event{down(3, 1), down(4, 0)}, 3},
		{[]impl.Event{down(5, 3), up(5, 3)}, 0},
		{[]impl.Event{down(5, 3), up(5, 3), down(5, 3)}, 8},
		{[]impl.Event{down(0, 24), down(1, 23), up(2, 24)}, 1 << 23},
		{downs(9, 0, impl.MaxKey), 1<<32 - 1},
		{taps(9, 4, impl.MaxEvents-1), 16},
		{taps(9, 4, impl.MaxEvents), 0},
		{taps(9, 4, impl.MaxEvents+1), 0},
	}
	for _, c := range cases {
		if got := impl.HeldAfter(c.l); got != c.want {
			t.Errorf("HeldAfter(%v) = %d, want %d", c.l, got, c.want)
		}
	}
}

func TestEventsOf(t *testing.T) {
	const all = 1<<32 - 1
	cases := []struct {
		masks []int
		want  []impl.Event
	}{
		{nil, nil},
		{[]int{0}, nil},
		{[]int{0, 0, 0}, nil},
		{[]int{1}, []impl.Event{down(0, 0)}},
		{[]int{1, 1, 2}, []impl.Event{down(0, 0), up(2, 0), down(2, 1)}},
		{[]int{0, 2, 1}, []impl.Event{down(1, 1), down(2, 0), up(2, 1)}},
		{[]int{1 << 31, 1, 0}, []impl.Event{down(0, 31), down(1, 0), up(1, 31), up(2, 0)}},
		{[]int{10, 5}, []impl.Event{down(0, 1), down(0, 3), down(1, 0), up(1, 1), down(1, 2), up(1, 3)}},
		{[]int{1 << 24, 1<<24 | 1<<23}, []impl.Event{down(0, 24), down(1, 23)}},
		{[]int{all}, downs(0, 0, 31)},
		// as many changes as there may be, and as many masks
		{[]int{0, all, 0}, slices.Concat(downs(1, 0, 31), ups(2, 0, 31))},
		{append(make([]int, impl.MaxSamples-1), 6), []impl.Event{down(199, 1), down(199, 2)}},
		{slices.Repeat([]int{1 << 31}, impl.MaxSamples), []impl.Event{down(0, 31)}},
	}
	for _, c := range cases {
		before := slices.Clone(c.masks)
		got, ok := impl.EventsOf(c.masks)
		if !ok || !slices.Equal(got, c.want) {
			t.Errorf("EventsOf(%v) = %v, %v, want %v, true", c.masks, got, ok, c.want)
		}
		if !slices.Equal(c.masks, before) {
			t.Errorf("EventsOf changed %v to %v", before, c.masks)
		}
	}
}

func TestEventsOfRejects(t *testing.T) {
	const all = 1<<32 - 1
	cases := [][]int{
		{-1}, {1 << 32}, {all + 2}, {1<<33 - 1}, {math.MaxInt}, {math.MinInt},
		{0, -1}, {-1, 0}, {1, 1 << 32, 1}, {1, 2, 3, math.MinInt},
		append(make([]int, impl.MaxSamples-1), -1),
		make([]int, impl.MaxSamples+1),
		slices.Repeat([]int{1}, impl.MaxSamples+1),
		// more than MaxEvents changes: by one, in one mask, and key by key
		{all, 0, 1},
		{1, 0, all, 1},
		{all, 0, all},
		append(slices.Repeat([]int{1, 0}, impl.MaxEvents/2), 0, 0, 1),
		slices.Repeat([]int{1 << 31, 0}, impl.MaxSamples/2),
		slices.Repeat([]int{all, 0}, impl.MaxSamples/2),
		append(slices.Repeat([]int{all, 0}, 3), -1),
	}
	for _, masks := range cases {
		if got, ok := impl.EventsOf(masks); ok || len(got) != 0 {
			t.Errorf("EventsOf(%v) = %v, %v, want no events and false", masks, got, ok)
		}
	}
	if got, ok := impl.EventsOf(slices.Repeat([]int{1, 0}, impl.MaxEvents/2)); !ok || len(got) != impl.MaxEvents {
		t.Errorf("EventsOf of MaxEvents changes returns %d events, %v", len(got), ok)
	}
}

func TestMasksOf(t *testing.T) {
	cases := []struct {
		l    []impl.Event
		n    int
		want []int
	}{
		{nil, 0, nil},
		{nil, 3, []int{0, 0, 0}},
		{[]impl.Event{down(0, 0)}, 0, nil},
		{[]impl.Event{down(0, 0)}, 1, []int{1}},
		{[]impl.Event{down(1, 0)}, 1, []int{0}},
		{[]impl.Event{down(1, 0)}, 3, []int{0, 1, 1}},
		{[]impl.Event{down(0, 0), up(2, 0), down(2, 1)}, 4, []int{1, 1, 2, 2}},
		{[]impl.Event{down(0, 31), down(1, 24), up(3, 31)}, 4, []int{1 << 31, 1<<31 | 1<<24, 1<<31 | 1<<24, 1 << 24}},
		// two changes in one millisecond
		{[]impl.Event{down(1, 3), up(1, 3)}, 3, []int{0, 0, 0}},
		{[]impl.Event{down(0, 3), up(1, 3), down(1, 3)}, 3, []int{8, 8, 8}},
		{[]impl.Event{down(1, 3), down(1, 1)}, 3, []int{0, 10, 10}},
		{[]impl.Event{down(1, 3), up(2, 3), down(2, 1)}, 3, []int{0, 8, 2}},
		{[]impl.Event{down(1, 3), down(2, 1), up(2, 3)}, 3, []int{0, 8, 2}},
		// events behind the last mask
		{[]impl.Event{down(0, 0), down(3, 1), down(impl.MaxTime, 2)}, 3, []int{1, 1, 1}},
		{taps(2, 6, impl.MaxEvents-1), 4, []int{0, 0, 64, 64}},
		{[]impl.Event{down(199, 0), down(200, 1)}, impl.MaxSamples, append(make([]int, 199), 1)},
	}
	for _, c := range cases {
		if got, ok := impl.MasksOf(c.l, c.n); !ok || !slices.Equal(got, c.want) {
			t.Errorf("MasksOf(%v, %d) = %v, %v, want %v, true", c.l, c.n, got, ok, c.want)
		}
	}
	for _, n := range []int{-1, impl.MaxSamples + 1, 1 << 62, math.MaxInt, math.MinInt} {
		for _, l := range validEventLists() {
			if got, ok := impl.MasksOf(l, n); ok || len(got) != 0 {
				t.Errorf("MasksOf(%v, %d) = %v, %v, want no masks and false", l, n, got, ok)
			}
		}
	}
}

func TestReleaseAll(t *testing.T) {
	cases := []struct {
		l    []impl.Event
		time int
		want []impl.Event
	}{
		{nil, 0, nil},
		{nil, impl.MaxTime, nil},
		{[]impl.Event{down(3, 1), down(4, 0)}, 9, []impl.Event{down(3, 1), down(4, 0), up(9, 0), up(9, 1)}},
		{[]impl.Event{down(3, 1)}, 3, []impl.Event{down(3, 1), up(3, 1)}},
		{[]impl.Event{down(3, 1)}, impl.MaxTime, []impl.Event{down(3, 1), up(impl.MaxTime, 1)}},
		{[]impl.Event{down(0, 31)}, 0, []impl.Event{down(0, 31), up(0, 31)}},
		{[]impl.Event{down(3, 1), up(4, 1)}, 4, []impl.Event{down(3, 1), up(4, 1)}},
		{[]impl.Event{down(3, 1), up(4, 1)}, 5, []impl.Event{down(3, 1), up(4, 1)}},
		{
			[]impl.Event{down(0, 30), down(0, 2), down(1, 24), up(2, 2), down(2, 7)}, 2,
			[]impl.Event{down(0, 30), down(0, 2), down(1, 24), up(2, 2), down(2, 7), up(2, 7), up(2, 24), up(2, 30)},
		},
		// as many events as there may be
		{downs(0, 0, 31), 7, slices.Concat(downs(0, 0, 31), ups(7, 0, 31))},
		{taps(1, 5, impl.MaxEvents-1), 1, taps(1, 5, impl.MaxEvents)},
		{taps(1, 5, impl.MaxEvents), 8, taps(1, 5, impl.MaxEvents)},
	}
	for _, c := range cases {
		if got, ok := impl.ReleaseAll(c.l, c.time); !ok || !slices.Equal(got, c.want) {
			t.Errorf("ReleaseAll(%v, %d) = %v, %v, want %v, true", c.l, c.time, got, ok, c.want)
		}
	}
}

func TestReleaseAllRejects(t *testing.T) {
	cases := []struct {
		l    []impl.Event
		time int
	}{
		// before the last event, also if nothing is down
		{[]impl.Event{down(3, 1)}, 2},
		{[]impl.Event{down(3, 1)}, 0},
		{[]impl.Event{down(3, 1), up(4, 1)}, 3},
		{[]impl.Event{down(impl.MaxTime, 1)}, impl.MaxTime - 1},
		// no such time
		{nil, -1},
		{nil, impl.MaxTime + 1},
		{nil, math.MaxInt},
		{nil, math.MinInt},
		{[]impl.Event{down(0, 1), up(0, 1)}, -1},
		{[]impl.Event{down(0, 1), up(0, 1)}, impl.MaxTime + 1},
		{[]impl.Event{down(0, 1)}, math.MaxInt},
		{[]impl.Event{down(0, 1)}, math.MinInt},
		// more events than there may be
		{slices.Concat(taps(0, 0, 3), downs(3, 1, 31)), 4},
		{slices.Concat(taps(0, 0, impl.MaxEvents-2), downs(3, 1, 2)), 4},
		{slices.Concat(taps(0, 0, impl.MaxEvents-1), downs(3, 1, 1)), 4},
	}
	for _, c := range cases {
		if !impl.IsEvents(c.l) {
			t.Fatalf("IsEvents(%v) = false", c.l)
		}
		if got, ok := impl.ReleaseAll(c.l, c.time); ok || len(got) != 0 {
			t.Errorf("ReleaseAll(%v, %d) = %v, %v, want no events and false", c.l, c.time, got, ok)
		}
	}
}

func TestFormatEvents(t *testing.T) {
	cases := []struct {
		l    []impl.Event
		want string
	}{
		{nil, ""},
		{[]impl.Event{down(0, 0)}, "0+0"},
		{[]impl.Event{down(3, 1), down(4, 0)}, "3+1 4+0"},
		{[]impl.Event{down(0, 0), up(2, 0), down(2, 1)}, "0+0 2-0 2+1"},
		{[]impl.Event{down(5, 13), up(5, 13)}, "5+13 5-13"},
		{[]impl.Event{down(120, 24), up(impl.MaxTime, 24), down(impl.MaxTime, impl.MaxKey)}, "120+24 1000000-24 1000000+31"},
		{taps(0, 9, impl.MaxEvents), strings.Repeat("0+9 0-9 ", impl.MaxEvents/2)[:4*impl.MaxEvents-1]},
	}
	for _, c := range cases {
		if got := impl.FormatEvents(c.l); got != c.want {
			t.Errorf("FormatEvents(%v) = %q, want %q", c.l, got, c.want)
		}
		if got, ok := impl.ParseEvents(c.want); !ok || !slices.Equal(got, c.l) {
			t.Errorf("ParseEvents(%q) = %v, %v, want %v, true", c.want, got, ok, c.l)
		}
	}
}

func TestParseEventsRejects(t *testing.T) {
	cases := []string{
		// no events
		" ", "  ", "+", "-", "0", "0+", "+0", "0-", "-0", "00", "0 0", "0 + 0", "a", "a+0", "0+a", "\x00",
		// spaces around and between events, other separators
		" 0+0", "0+0 ", "0+0  0-0", "0+0\t0-0", "0+0\n0-0", "0+0\n", "0+00-0", "0+0,0-0", "0+0;1-0", "0 +0", "0+ 0",
		// numbers that FormatInt does not write, and more than one sign
		"00+0", "0+00", "01+0", "0+01", "+0+0", "-0+0", "-1+0", "0+-0", "0++0", "0--0", "0+-1", "0+0+", "0+0-", "0+0-0",
		"0x1+0", "1.0+0", "1e3+0", "0+0x1", "\u0661+0", "0+\u0661", "0\u22120", "0\xff+0", "0+0\xff", "\xff", "0*0", "0+0 1*0", "0+0 1/0", "0+0 1,0", "0+0 1:0", "0+0 1_0",
		// no valid event
		"0+32", "0+99", "0+999999999", "1000001+0", "999999999+0", "1000000000+0", "0+1000000000",
		"9223372036854775808+0", "18446744073709551616+0", "0+18446744073709551616", "0+18446744073709551617",
		// no valid events
		"0-0", "5-31", "0+0 0+0", "0+0 1-0 2-0", "0+0 0-1", "1+0 0-0", "1+0 0+1", "0+0 0+1 0+0", "0+0 x", "x 0+0", "0+0 0-0 -",
		strings.Repeat("0+9 0-9 ", impl.MaxEvents/2) + "0+9",
		strings.Repeat("0+9 0-9 ", 1000) + "0+9",
		strings.Repeat(" ", 5000), strings.Repeat("9", 5000), strings.Repeat("0+0", 2000),
	}
	for _, s := range cases {
		if got, ok := impl.ParseEvents(s); ok || len(got) != 0 {
			t.Errorf("ParseEvents(%.60q) = %v, %v, want no events and false", s, got, ok)
		}
	}
}

// shortFormats are the formats of at most seven characters whose digits are 0, 1 and 2.
func shortFormats() map[string][]impl.Event {
	formats := map[string][]impl.Event{"": nil}
	add := func(l ...impl.Event) {
		s := impl.FormatEvents(l)
		if len(s) <= 7 && strings.Trim(s, "012+- ") == "" {
			formats[s] = l
		}
	}
	for time := range 100000 {
		for _, key := range []int{0, 1, 2, 10, 11, 12, 20, 21, 22} {
			add(down(time, key))
		}
	}
	// Two events have seven characters if all their numbers have one digit.
	for bits := range 81 {
		time, key, later, other := bits%3, bits/3%3, bits/9%3, bits/27
		if time <= later && key == other {
			add(down(time, key), up(later, other))
		} else if time <= later {
			add(down(time, key), down(later, other))
		}
	}
	return formats
}

func TestParseEventsReadsNothingElse(t *testing.T) {
	// Every text of up to seven of these characters is read as its events or not at all.
	const characters = "012+- "
	formats := shortFormats()
	read := 0
	var check func(s string)
	check = func(s string) {
		want, wantOK := formats[s]
		got, ok := impl.ParseEvents(s)
		if ok != wantOK || !slices.Equal(got, want) {
			t.Fatalf("ParseEvents(%q) = %v, %v, want %v, %v", s, got, ok, want, wantOK)
		}
		if ok {
			read++
		}
		for i := 0; i < len(characters) && len(s) < 7; i++ {
			check(s + characters[i:i+1])
		}
	}
	check("")
	if read != len(formats) {
		t.Errorf("%d texts are read, want %d", read, len(formats))
	}
}

// isEventsByTheText checks the events of each key by themselves.
func isEventsByTheText(l []impl.Event) bool {
	if len(l) > impl.MaxEvents {
		return false
	}
	seen := map[int]int{}
	for i, e := range l {
		if e.Time < 0 || e.Time > impl.MaxTime || e.Key < 0 || e.Key > impl.MaxKey {
			return false
		}
		if i > 0 && l[i-1].Time > e.Time {
			return false
		}
		if e.Down != (seen[e.Key]%2 == 0) {
			return false
		}
		seen[e.Key]++
	}
	return true
}

// heldAt are the keys that are down after the valid events with at most this time: their last event is a down.
func heldAt(l []impl.Event, time int) int {
	mask := 0
	for key := range eventKeys {
		isDown := false
		for _, e := range l {
			if e.Key == key && e.Time <= time {
				isDown = e.Down
			}
		}
		if isDown {
			mask += 1 << key
		}
	}
	return mask
}

// checkEvents checks promise 4 for a list of events that need not be valid.
func checkEvents(t *testing.T, l []impl.Event) {
	t.Helper()
	valid := isEventsByTheText(l)
	if got := impl.IsEvents(l); got != valid {
		t.Fatalf("IsEvents(%v) = %v", l, got)
	}
	if !valid {
		if impl.HeldAfter(l) != 0 || impl.FormatEvents(l) != "" {
			t.Fatalf("invalid events %v have the keys %d and the format %q", l, impl.HeldAfter(l), impl.FormatEvents(l))
		}
		return
	}
	if got, want := impl.HeldAfter(l), heldAt(l, impl.MaxTime); got != want {
		t.Fatalf("HeldAfter(%v) = %d, want %d", l, got, want)
	}
	if got, ok := impl.ParseEvents(impl.FormatEvents(l)); !ok || !slices.Equal(got, l) {
		t.Fatalf("%v is read from %q as %v, %v", l, impl.FormatEvents(l), got, ok)
	}
	checkMasksOfEvents(t, l)
	checkReleased(t, l)
}

func checkMasksOfEvents(t *testing.T, l []impl.Event) {
	t.Helper()
	const n = 9
	masks, ok := impl.MasksOf(l, n)
	if !ok || len(masks) != n {
		t.Fatalf("MasksOf(%v, %d) = %v, %v", l, n, masks, ok)
	}
	for i, mask := range masks {
		if want := heldAt(l, i); mask != want {
			t.Fatalf("mask %d of MasksOf(%v, %d) is %d, want %d", i, l, n, mask, want)
		}
	}
	// The events of the masks are those that do not cancel each other within their millisecond.
	again, ok := impl.EventsOf(masks)
	if !ok || !isEventsByTheText(again) {
		t.Fatalf("EventsOf(%v) = %v, %v", masks, again, ok)
	}
	for i := range n {
		if heldAt(again, i) != masks[i] {
			t.Fatalf("EventsOf(%v) = %v does not tell mask %d", masks, again, i)
		}
	}
	for i := 1; i < len(again); i++ {
		if again[i].Time == again[i-1].Time && again[i].Key <= again[i-1].Key {
			t.Fatalf("EventsOf(%v) = %v is not ascending", masks, again)
		}
	}
}

func checkReleased(t *testing.T, l []impl.Event) {
	t.Helper()
	last := 0
	for _, e := range l {
		last = e.Time
	}
	held := heldAt(l, impl.MaxTime)
	for time := max(last-2, 0); time <= min(last+2, impl.MaxTime); time++ {
		want := slices.Clone(l)
		for key := range eventKeys {
			if bitAt(held, key) {
				want = append(want, up(time, key))
			}
		}
		wantOK := time >= last && len(want) <= impl.MaxEvents
		if !wantOK {
			want = nil
		}
		got, ok := impl.ReleaseAll(l, time)
		if ok != wantOK || !slices.Equal(got, want) {
			t.Fatalf("ReleaseAll(%v, %d) = %v, %v, want %v, %v", l, time, got, ok, want, wantOK)
		}
		if ok && (!isEventsByTheText(got) || impl.HeldAfter(got) != 0 || heldAt(got, impl.MaxTime) != 0) {
			t.Fatalf("after ReleaseAll(%v, %d) = %v, keys are down", l, time, got)
		}
	}
}

func TestPromise4OfAllShortLists(t *testing.T) {
	var events []impl.Event
	for _, time := range []int{3, 4} {
		for _, key := range []int{0, 31} {
			events = append(events, down(time, key), up(time, key))
		}
	}
	var check func(l []impl.Event)
	check = func(l []impl.Event) {
		checkEvents(t, l)
		if len(l) == 5 {
			return
		}
		for _, e := range events {
			check(append(slices.Clone(l), e))
		}
	}
	check(nil)
	for _, l := range append(validEventLists(), badEventLists()...) {
		checkEvents(t, l)
	}
}

func TestPromise4OfAllShortRuns(t *testing.T) {
	for _, keys := range [][3]int{{0, 1, 2}, {0, 23, 31}, {7, 24, 25}} {
		for bits := range 1 << 12 {
			masks := make([]int, 4)
			for i := range masks {
				for j, key := range keys {
					masks[i] |= bits >> (3*i + j) & 1 << key
				}
			}
			checkRun(t, masks)
		}
	}
}

func TestPromise4OfLongRuns(t *testing.T) {
	x := uint64(4)
	next := func(below int) int {
		x = x*6364136223846793005 + 1442695040888963407
		return int(x>>33) % below
	}
	for range 300 {
		masks := make([]int, next(impl.MaxSamples+1))
		mask, rare := 0, 1+next(8)
		for i := range masks {
			if next(rare) == 0 {
				mask ^= 1 << next(eventKeys)
			}
			if next(20) == 0 {
				mask ^= 1<<next(eventKeys) | 1<<next(eventKeys)
			}
			masks[i] = mask
		}
		checkRun(t, masks)
	}
}

// checkRun checks promise 4 for a list of valid masks: their events tell them again, and all keys can be let go.
func checkRun(t *testing.T, masks []int) {
	t.Helper()
	changes := 0
	for key := range eventKeys {
		changes += len(changesAt(masks, key))
	}
	l, ok := impl.EventsOf(masks)
	if ok != (changes <= impl.MaxEvents) {
		t.Fatalf("EventsOf(%v) = %v, %v for %d changes", masks, l, ok, changes)
	}
	if !ok {
		return
	}
	if len(l) != changes {
		t.Fatalf("EventsOf(%v) has %d events for %d changes", masks, len(l), changes)
	}
	checkEvents(t, l)
	if got, ok := impl.MasksOf(l, len(masks)); !ok || !slices.Equal(got, masks) {
		t.Fatalf("masks %v have become %v, %v by the events %v", masks, got, ok, l)
	}
	if len(masks) > 0 && impl.HeldAfter(l) != masks[len(masks)-1] {
		t.Fatalf("HeldAfter(%v) = %d, but the last of %v was read", l, impl.HeldAfter(l), masks)
	}
	for key := range eventKeys {
		for _, time := range changesAt(masks, key) {
			want := impl.Event{Time: time, Key: key, Down: bitAt(masks[time], key)}
			if !slices.Contains(l, want) {
				t.Fatalf("EventsOf(%v) = %v does not have %v", masks, l, want)
			}
		}
	}
}

func TestTwoChangesInOneMillisecond(t *testing.T) {
	for a := range eventKeys {
		for b := range eventKeys {
			checkTwoChanges(t, a, b)
		}
	}
}

func checkTwoChanges(t *testing.T, a int, b int) {
	t.Helper()
	for _, time := range []int{0, 1, 7} {
		lists := [][]impl.Event{{down(time, a), up(time, a)}}
		if a != b {
			lists = [][]impl.Event{
				{down(time, a), down(time, b)},
				{down(0, a), up(time, a), down(time, b)},
				{down(0, a), down(time, b), up(time, a)},
				{down(0, a), down(0, b), up(time, a), up(time, b)},
			}
		}
		for _, l := range lists {
			checkEvents(t, l)
		}
	}
	if a < b {
		// Of two keys that change together, the lesser one comes first, whatever goes down and up.
		for _, from := range []int{0, 1 << a, 1 << b, 1<<a | 1<<b} {
			l, ok := impl.EventsOf([]int{from, from, from ^ (1<<a | 1<<b)})
			want := []impl.Event{{Time: 2, Key: a, Down: !bitAt(from, a)}, {Time: 2, Key: b, Down: !bitAt(from, b)}}
			if !ok || len(l) < 2 || !slices.Equal(l[len(l)-2:], want) {
				t.Errorf("keys %d and %d change together after %d as %v, %v, want %v", a, b, from, l, ok, want)
			}
		}
	}
}

// overwriteEvents changes all the memory that a slice may reach.
func overwriteEvents(l []impl.Event) {
	l = l[:cap(l)]
	for i := range l {
		l[i] = impl.Event{Time: -7, Key: -7}
	}
}

func TestEventsLeaveTheirArguments(t *testing.T) {
	all := []impl.Event{down(1, 2), down(2, 4), up(3, 2), up(3, 4), down(9, 9), down(8, 8), down(7, 7)}
	for n := range 6 {
		l := slices.Clone(all)
		if got, ok := impl.ReleaseAll(l[:n], 9); ok {
			overwriteEvents(got)
		} else {
			t.Errorf("ReleaseAll(%v, 9) fails", l[:n])
		}
		if got, ok := impl.MasksOf(l[:n], 5); ok {
			overwrite(got)
		}
		impl.IsEvents(l[:n])
		impl.HeldAfter(l[:n])
		impl.FormatEvents(l[:n])
		if !slices.Equal(l, all) {
			t.Errorf("of the first %d events of %v, the argument has become %v", n, all, l)
		}
	}
	masks := []int{1, 3, 2, 6, 21, 22}
	if got, ok := impl.EventsOf(masks[:4]); ok {
		overwriteEvents(got)
	}
	if !slices.Equal(masks, []int{1, 3, 2, 6, 21, 22}) {
		t.Errorf("the masks of the argument have become %v", masks)
	}
}
