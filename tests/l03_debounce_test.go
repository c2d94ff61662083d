package tests

import (
	"math"
	"slices"
	"testing"

	"loop.example/g03414/impl"
)

var debounceKinds = []int{impl.DebounceKey, impl.DebounceAll, impl.DebounceEager}

const switches = impl.MaxRows * impl.MaxCols

var noSwitches = []int{-1, -2, switches, switches + 1, 31, 63, 64, 65, math.MaxInt, math.MinInt}

// masksOfRows are masks of which each row draws one key, step by step: x where its bit is set.
func masksOfRows(rows ...string) []int {
	l := make([]int, len(rows[0]))
	for key, row := range rows {
		for i := range row {
			if row[i] == 'x' {
				l[i] |= 1 << key
			}
		}
	}
	return l
}

// isZero reports whether a debouncer is the one that a failing function returns.
func isZero(d impl.Debouncer) bool {
	return d.Kind == 0 && d.Time == 0 && d.Keys == 0 && d.Shown == 0 && d.Last == 0 && len(d.Ages) == 0
}

func sameDebouncer(a impl.Debouncer, b impl.Debouncer) bool {
	return a.Kind == b.Kind && a.Time == b.Time && a.Keys == b.Keys &&
		a.Shown == b.Shown && a.Last == b.Last && slices.Equal(a.Ages, b.Ages)
}

func newDebouncer(t *testing.T, kind int, time int, keys int) impl.Debouncer {
	t.Helper()
	d, ok := impl.NewDebouncer(kind, time, keys)
	if !ok {
		t.Fatalf("NewDebouncer(%d, %d, %d) fails", kind, time, keys)
	}
	return d
}

func validDebouncers() []impl.Debouncer {
	ages := func(n int, age int) []int { return slices.Repeat([]int{age}, n) }
	const all = 1<<switches - 1
	return []impl.Debouncer{
		{Kind: impl.DebounceKey, Time: 1, Keys: 1, Ages: ages(1, 0)},
		{Kind: impl.DebounceKey, Time: 5, Keys: 3, Shown: 5, Last: 6, Ages: []int{0, 99, 7}},
		{Kind: impl.DebounceAll, Time: impl.MaxDebounce, Keys: 2, Shown: 3, Last: 3, Ages: ages(2, impl.MaxAge)},
		{Kind: impl.DebounceAll, Time: 2, Keys: 2, Shown: 1, Last: 2, Ages: []int{1, 98}},
		{Kind: impl.DebounceEager, Time: 20, Keys: switches, Shown: all, Last: all, Ages: ages(switches, 99)},
		{Kind: impl.DebounceEager, Time: 1, Keys: switches, Last: all, Ages: ages(switches, 0)},
	}
}

// badDebouncers differ from valid ones in one field.
func badDebouncers() []impl.Debouncer {
	l := []impl.Debouncer{{}, {Time: 1}, {Time: 1, Keys: 1}, {Time: 1, Ages: []int{}}}
	for _, good := range validDebouncers() {
		add := func(change func(d *impl.Debouncer)) {
			d := good
			d.Ages = slices.Clone(good.Ages)
			change(&d)
			l = append(l, d)
		}
		for _, kind := range []int{-1, 3, 4, math.MaxInt, math.MinInt} {
			add(func(d *impl.Debouncer) { d.Kind = kind })
		}
		for _, time := range []int{0, -1, impl.MaxDebounce + 1, math.MaxInt, math.MinInt} {
			add(func(d *impl.Debouncer) { d.Time = time })
		}
		for _, keys := range []int{0, -1, good.Keys - 1, good.Keys + 1, switches + 1, 64, math.MaxInt, math.MinInt} {
			add(func(d *impl.Debouncer) { d.Keys = keys })
		}
		for _, mask := range []int{-1, 1 << good.Keys, 1<<good.Keys + 1, 1 << 62, math.MaxInt, math.MinInt} {
			add(func(d *impl.Debouncer) { d.Shown = mask })
			add(func(d *impl.Debouncer) { d.Last = mask })
		}
		add(func(d *impl.Debouncer) { d.Ages = nil })
		add(func(d *impl.Debouncer) { d.Ages = d.Ages[1:] })
		add(func(d *impl.Debouncer) { d.Ages = append(d.Ages, 0) })
		for _, age := range []int{-1, impl.MaxAge + 1, math.MaxInt, math.MinInt} {
			add(func(d *impl.Debouncer) { d.Ages[0] = age })
			add(func(d *impl.Debouncer) { d.Ages[len(d.Ages)-1] = age })
		}
	}
	// One key more than there are switches, with everything else to match.
	more := switches + 1
	return append(l, impl.Debouncer{Time: 1, Keys: more, Shown: 1 << switches, Ages: make([]int, more)},
		impl.Debouncer{Time: 1, Keys: 64, Ages: make([]int, 64)})
}

func TestIsDebouncer(t *testing.T) {
	for _, d := range validDebouncers() {
		if !impl.IsDebouncer(d) {
			t.Errorf("IsDebouncer(%v) = false", d)
		}
	}
	for _, d := range badDebouncers() {
		if impl.IsDebouncer(d) {
			t.Errorf("IsDebouncer(%v) = true", d)
		}
	}
}

func TestNewDebouncer(t *testing.T) {
	kinds := []int{math.MinInt, -1, 0, 1, 2, 3, math.MaxInt}
	times := []int{math.MinInt, -1, 0, 1, 2, 10, 19, 20, 21, 99, math.MaxInt}
	keys := []int{math.MinInt, -1, 0, 1, 2, 12, 23, 24, 25, 32, 64, math.MaxInt}
	for _, kind := range kinds {
		for _, time := range times {
			for _, n := range keys {
				d, ok := impl.NewDebouncer(kind, time, n)
				if kind < 0 || kind > 2 || time < 1 || time > 20 || n < 1 || n > 24 {
					if ok || !isZero(d) {
						t.Errorf("NewDebouncer(%d, %d, %d) = %v, %v, want the zero value, false", kind, time, n, d, ok)
					}
					continue
				}
				want := impl.Debouncer{Kind: kind, Time: time, Keys: n, Ages: slices.Repeat([]int{99}, n)}
				if !ok || !sameDebouncer(d, want) || !impl.IsDebouncer(d) {
					t.Errorf("NewDebouncer(%d, %d, %d) = %v, %v, want %v, true", kind, time, n, d, ok, want)
				}
			}
		}
	}
}

func TestDebounceStep(t *testing.T) {
	const key, all, eager = impl.DebounceKey, impl.DebounceAll, impl.DebounceEager
	cases := []struct {
		kind, time, shown, last int
		ages                    []int
		raw, wantShown          int
		wantAges                []int
	}{
		// an age ends at MaxAge
		{key, 3, 0, 0, []int{97, 98, 99}, 0, 0, []int{98, 99, 99}},
		{all, 3, 7, 7, []int{97, 98, 99}, 7, 7, []int{98, 99, 99}},
		{eager, 3, 0, 0, []int{97, 98, 99}, 0, 0, []int{98, 99, 99}},
		// each key starts anew by itself, or all do together
		{key, 3, 0, 1, []int{5, 6, 7}, 3, 1, []int{6, 1, 8}},
		{all, 3, 0, 1, []int{5, 6, 7}, 3, 0, []int{1, 1, 1}},
		{all, 3, 0, 3, []int{5, 6, 7}, 3, 3, []int{6, 7, 8}},
		// the present step counts
		{key, 3, 0, 7, []int{1, 2, 3}, 7, 6, []int{2, 3, 4}},
		{all, 3, 0, 7, []int{2, 2, 2}, 7, 7, []int{3, 3, 3}},
		{all, 4, 0, 7, []int{2, 2, 2}, 7, 0, []int{3, 3, 3}},
		// with the Time 1 a change is shown at once
		{key, 1, 2, 2, []int{9, 9, 9}, 5, 5, []int{1, 1, 1}},
		{all, 1, 2, 2, []int{9, 9, 9}, 5, 5, []int{1, 1, 1}},
		{eager, 1, 2, 2, []int{0, 0, 0}, 5, 5, []int{0, 0, 0}},
		// eager: the age of a key that does not change goes on, and Last does not matter
		{eager, 3, 0, 0, []int{1, 2, 3}, 7, 6, []int{2, 0, 0}},
		{eager, 3, 0, 7, []int{1, 2, 3}, 7, 6, []int{2, 0, 0}},
		{eager, 3, 7, 0, []int{1, 2, 3}, 7, 7, []int{2, 3, 4}},
		{eager, 20, 1, 1, []int{18, 19, 99}, 2, 3, []int{19, 0, 99}},
	}
	for _, c := range cases {
		d := impl.Debouncer{Kind: c.kind, Time: c.time, Keys: len(c.ages), Shown: c.shown, Last: c.last, Ages: c.ages}
		want := d
		want.Shown, want.Last, want.Ages = c.wantShown, c.raw, c.wantAges
		if got, ok := impl.DebounceStep(d, c.raw); !ok || !sameDebouncer(got, want) {
			t.Errorf("DebounceStep(%v, %b) = %v, %v, want %v, true", d, c.raw, got, ok, want)
		}
	}
}

// stepByTheText follows the text of the document for DebounceStep with divisions alone.
func stepByTheText(d impl.Debouncer, raw int) impl.Debouncer {
	next := impl.Debouncer{Kind: d.Kind, Time: d.Time, Keys: d.Keys, Last: raw}
	for k := range d.Keys {
		unit := 1 << k
		sample, last, shown := raw/unit%2, d.Last/unit%2, d.Shown/unit%2
		age := d.Ages[k] + 1
		if age > 99 {
			age = 99
		}
		if d.Kind == impl.DebounceKey && sample != last || d.Kind == impl.DebounceAll && raw != d.Last {
			age = 1
		}
		if age >= d.Time && sample != shown {
			shown = sample
			if d.Kind == impl.DebounceEager {
				age = 0
			}
		}
		next.Shown += shown * unit
		next.Ages = append(next.Ages, age)
	}
	return next
}

func checkStep(t *testing.T, d impl.Debouncer, raw int) {
	t.Helper()
	want := stepByTheText(d, raw)
	if got, ok := impl.DebounceStep(d, raw); !ok || !sameDebouncer(got, want) || !impl.IsDebouncer(got) {
		t.Fatalf("DebounceStep(%v, %b) = %v, %v, want %v, true", d, raw, got, ok, want)
	}
}

func TestDebounceStepInAllStatesOfAKey(t *testing.T) {
	for _, kind := range debounceKinds {
		for time := 1; time <= impl.MaxDebounce; time++ {
			for age := range impl.MaxAge + 1 {
				for bits := range 8 {
					d := impl.Debouncer{Kind: kind, Time: time, Keys: 1, Shown: bits & 1, Last: bits >> 1 & 1, Ages: []int{age}}
					checkStep(t, d, bits>>2)
				}
			}
		}
	}
}

func TestDebounceStepOfSeveralKeys(t *testing.T) {
	ages := []int{0, 1, 2, 99}
	for _, kind := range debounceKinds {
		for time := 1; time <= 3; time++ {
			for bits := range 64 {
				for i := range len(ages) * len(ages) {
					d := impl.Debouncer{
						Kind: kind, Time: time, Keys: 2, Shown: bits & 3, Last: bits >> 2 & 3,
						Ages: []int{ages[i%len(ages)], ages[i/len(ages)]},
					}
					checkStep(t, d, bits>>4)
				}
			}
		}
	}
	for _, d := range validDebouncers() {
		for _, raw := range []int{0, 1, 1<<d.Keys - 1, d.Shown, d.Last, d.Last ^ 1, d.Last ^ 1<<(d.Keys-1)} {
			checkStep(t, d, raw)
		}
	}
}

func TestDebounceStepRejects(t *testing.T) {
	for _, d := range badDebouncers() {
		for _, raw := range []int{0, 1, -1, math.MaxInt, math.MinInt} {
			if got, ok := impl.DebounceStep(d, raw); ok || !isZero(got) {
				t.Errorf("DebounceStep(%v, %d) = %v, %v, want the zero value, false", d, raw, got, ok)
			}
			got, shown, ok := impl.DebounceRun(d, []int{raw})
			if ok || !isZero(got) || len(shown) != 0 {
				t.Errorf("DebounceRun(%v, [%d]) = %v, %v, %v, want the zero value, nothing, false", d, raw, got, shown, ok)
			}
		}
		if got, shown, ok := impl.DebounceRun(d, nil); ok || !isZero(got) || len(shown) != 0 {
			t.Errorf("DebounceRun(%v, []) = %v, %v, %v, want the zero value, nothing, false", d, got, shown, ok)
		}
	}
	for _, d := range validDebouncers() {
		for _, raw := range []int{-1, 1 << d.Keys, 1<<d.Keys + 1, 1 << 62, math.MaxInt, math.MinInt} {
			if got, ok := impl.DebounceStep(d, raw); ok || !isZero(got) {
				t.Errorf("DebounceStep(%v, %d) = %v, %v, want the zero value, false", d, raw, got, ok)
			}
			for _, samples := range [][]int{{raw}, {raw, 0}, {0, raw, 0}, {0, 1, raw}} {
				got, shown, ok := impl.DebounceRun(d, samples)
				if ok || !isZero(got) || len(shown) != 0 {
					t.Errorf("DebounceRun(%v, %v) = %v, %v, %v, want the zero value, nothing, false", d, samples, got, shown, ok)
				}
			}
		}
	}
}

func TestDebounceRun(t *testing.T) {
	const key, all, eager = impl.DebounceKey, impl.DebounceAll, impl.DebounceEager
	cases := []struct {
		kind, time    int
		samples, want []string
	}{
		{key, 1, []string{"x.xx..x"}, []string{"x.xx..x"}},
		{all, 1, []string{"x.xx..x"}, []string{"x.xx..x"}},
		{eager, 1, []string{"x.xx..x"}, []string{"x.xx..x"}},

		{key, 3, []string{"xxx.x", "....."}, []string{"..xxx", "....."}},
		{key, 3, []string{"x.xxx.x....."}, []string{"....xxxxx..."}},
		{key, 3, []string{"xx.xx.xx.", "..xxxxxxx"}, []string{".........", "....xxxxx"}},
		{key, 4, []string{"xxxx...xx....x"}, []string{"...xxxxxxxxx.."}},

		{all, 2, []string{"xxxx", "..xx"}, []string{".xxx", "...x"}},
		{all, 3, []string{"x.xxx.x....."}, []string{"....xxxxx..."}},
		{all, 3, []string{"xxxxxxxx", ".x.x.xxx"}, []string{".......x", ".......x"}}, // a bouncing key holds up the other
		{all, 3, []string{"xxx.....", "...x...."}, []string{"..xxxx..", "........"}},

		{eager, 3, []string{"x.xx.."}, []string{"xxxx.."}},
		{eager, 3, []string{"x......"}, []string{"xxx...."}},
		{eager, 3, []string{"xx.x.xx"}, []string{"xxxx..."}},
		{eager, 3, []string{"....x.x.x.x"}, []string{"....xxx...x"}},
		{eager, 4, []string{"x.x.x...", ".x.xxxxx"}, []string{"xxxxx...", ".xxxxxxx"}},
	}
	for _, c := range cases {
		d := newDebouncer(t, c.kind, c.time, len(c.samples))
		_, shown, ok := impl.DebounceRun(d, masksOfRows(c.samples...))
		if want := masksOfRows(c.want...); !ok || !slices.Equal(shown, want) {
			t.Errorf("kind %d, time %d: DebounceRun of %v shows %v, %v, want %v", c.kind, c.time, c.samples, shown, ok, want)
		}
	}
}

func TestDebounceRunPerformsSteps(t *testing.T) {
	for _, d := range validDebouncers() {
		for _, n := range []int{0, 1, 2, 50, impl.MaxSamples} {
			samples := bouncing(n, d.Keys, uint64(n))
			want := impl.Debouncer{Kind: d.Kind, Time: d.Time, Keys: d.Keys, Shown: d.Shown, Last: d.Last, Ages: d.Ages}
			var wantShown []int
			for _, raw := range samples {
				want = stepByTheText(want, raw)
				wantShown = append(wantShown, want.Shown)
			}
			got, shown, ok := impl.DebounceRun(d, samples)
			if !ok || !sameDebouncer(got, want) || !slices.Equal(shown, wantShown) {
				t.Errorf("DebounceRun(%v, %d samples) = %v, %v, %v, want %v, %v, true", d, n, got, shown, ok, want, wantShown)
			}
		}
	}
}

func TestDebounceRunTakesMaxSamples(t *testing.T) {
	for _, kind := range debounceKinds {
		d := newDebouncer(t, kind, 2, 3)
		most := make([]int, impl.MaxSamples)
		if _, shown, ok := impl.DebounceRun(d, most); !ok || len(shown) != impl.MaxSamples {
			t.Errorf("kind %d: DebounceRun of MaxSamples samples shows %d, %v", kind, len(shown), ok)
		}
		for _, n := range []int{1, 2, 1000} {
			more := append(slices.Clone(most), make([]int, n)...)
			if got, shown, ok := impl.DebounceRun(d, more); ok || !isZero(got) || len(shown) != 0 {
				t.Errorf("kind %d: DebounceRun of %d samples = %v, %v, %v, want the zero value, nothing, false", kind, len(more), got, shown, ok)
			}
		}
		for _, at := range []int{0, 100, impl.MaxSamples - 1} {
			bad := slices.Clone(most)
			bad[at] = 8
			if got, shown, ok := impl.DebounceRun(d, bad); ok || !isZero(got) || len(shown) != 0 {
				t.Errorf("kind %d: DebounceRun with a bad sample at %d = %v, %v, %v, want the zero value, nothing, false", kind, at, got, shown, ok)
			}
		}
	}
}

// bouncing are samples of keys that now and then change and bounce for some steps.
func bouncing(n int, keys int, seed uint64) []int {
	x := seed
	next := func(below int) int {
		x = x*6364136223846793005 + 1442695040888963407
		return int(x>>33) % below
	}
	l := make([]int, n)
	mask, still := 0, 0
	for i := range l {
		if still == 0 {
			mask ^= 1 << next(keys)
			if next(3) == 0 {
				still = next(30)
			}
		} else {
			still--
		}
		l[i] = mask
	}
	return l
}

func bitAt(mask int, key int) bool { return mask&(1<<key) != 0 }

// changesAt are the indices of the masks at which the key changes, beginning with up.
func changesAt(masks []int, key int) []int {
	var l []int
	for i := range masks {
		before := i > 0 && bitAt(masks[i-1], key)
		if bitAt(masks[i], key) != before {
			l = append(l, i)
		}
	}
	return l
}

// stableAt reports whether the last time samples up to index i exist and agree about all keys of the mask.
func stableAt(samples []int, i int, time int, mask int) bool {
	if i < time-1 {
		return false
	}
	for _, sample := range samples[i-time+1 : i+1] {
		if sample&mask != samples[i]&mask {
			return false
		}
	}
	return true
}

// checkPromise3 compares what a new debouncer shows with the samples, key by key.
func checkPromise3(t *testing.T, kind int, time int, keys int, samples []int) {
	t.Helper()
	_, shown, ok := impl.DebounceRun(newDebouncer(t, kind, time, keys), samples)
	if !ok || len(shown) != len(samples) {
		t.Fatalf("kind %d, time %d: DebounceRun(%v) shows %v, %v", kind, time, samples, shown, ok)
	}
	for key := range keys {
		inSamples, inShown := changesAt(samples, key), changesAt(shown, key)
		if len(inShown) > len(inSamples) {
			t.Fatalf("kind %d, time %d: key %d changes more often in %v than in %v", kind, time, key, shown, samples)
		}
		if impl.CountChanges(samples, key) != len(inSamples) || impl.CountChanges(shown, key) != len(inShown) {
			t.Fatalf("CountChanges of key %d is wrong for %v or %v", key, samples, shown)
		}
		if !impl.IsSpaced(shown, key, time) {
			t.Fatalf("kind %d, time %d: changes of key %d in %v are not spaced", kind, time, key, shown)
		}
		together := 1 << key
		if kind == impl.DebounceAll {
			together = 1<<keys - 1
		}
		want := false
		for i := range samples {
			stable := stableAt(samples, i, time, together)
			if stable {
				want = bitAt(samples[i], key)
			}
			// The eager kind shows changes before they are stable, so it is bound where they are.
			if (stable || kind != impl.DebounceEager) && bitAt(shown[i], key) != want {
				t.Fatalf("kind %d, time %d: key %d of %v is shown wrongly at %d in %v", kind, time, key, samples, i, shown)
			}
		}
		if on, _ := impl.LastStable(samples, time, key); kind == impl.DebounceKey && len(shown) > 0 && on != bitAt(shown[len(shown)-1], key) {
			t.Fatalf("time %d: LastStable of key %d of %v is %v, but the last of %v is shown", time, key, samples, on, shown)
		}
	}
}

func TestPromise3OfAllShortRuns(t *testing.T) {
	const steps = 6
	for _, kind := range debounceKinds {
		for time := 1; time <= 4; time++ {
			for bits := range 1 << (2 * steps) {
				samples := make([]int, steps)
				for i := range samples {
					samples[i] = bits >> (2 * i) & 3
				}
				checkPromise3(t, kind, time, 2, samples)
			}
		}
	}
	// One key alone, for longer.
	for _, kind := range debounceKinds {
		for time := 1; time <= 6; time++ {
			for bits := range 1 << 12 {
				samples := make([]int, 12)
				for i := range samples {
					samples[i] = bits >> i & 1
				}
				checkPromise3(t, kind, time, 1, samples)
			}
		}
	}
}

func TestPromise3OfLongRuns(t *testing.T) {
	for _, kind := range debounceKinds {
		for time := 1; time <= impl.MaxDebounce; time++ {
			for _, keys := range []int{1, 2, 7, switches} {
				for seed := range 4 {
					checkPromise3(t, kind, time, keys, bouncing(impl.MaxSamples, keys, uint64(100*time+10*keys+seed)))
				}
			}
		}
	}
}

func TestEagerShowsAChangeAtOnce(t *testing.T) {
	for time := 1; time <= impl.MaxDebounce; time++ {
		for gap := 1; gap <= 2*time; gap++ {
			// The key goes down at 0, where its last change is long ago, and up for good after the gap.
			samples := append(slices.Repeat([]int{1}, gap), slices.Repeat([]int{0}, 2*time)...)
			_, shown, ok := impl.DebounceRun(newDebouncer(t, impl.DebounceEager, time, 1), samples)
			if got, want := changesAt(shown, 0), []int{0, max(gap, time)}; !ok || !slices.Equal(got, want) {
				t.Errorf("time %d, gap %d: changes are shown at %v, %v, want %v", time, gap, got, ok, want)
			}
		}
	}
}

func TestSamplesThatChangeInTheLastStep(t *testing.T) {
	for time := 1; time <= impl.MaxDebounce; time++ {
		for _, calm := range []int{0, 1, time - 1, time, time + 1, 2 * time, impl.MaxSamples - 1} {
			down := append(make([]int, calm), 2)
			up := append(slices.Repeat([]int{2}, calm), 0)
			for _, kind := range debounceKinds {
				d := newDebouncer(t, kind, time, 2)
				atOnce := kind == impl.DebounceEager || time == 1
				want := make([]int, calm+1)
				if atOnce {
					want[calm] = 2
				}
				if last, shown, ok := impl.DebounceRun(d, down); !ok || !slices.Equal(shown, want) || last.Last != 2 {
					t.Errorf("kind %d, time %d: the last of %d samples is down, but shown are %v, %v", kind, time, calm+1, shown, ok)
				}

				// Up again, if the calm was long enough to show the key as down.
				want = make([]int, calm+1)
				from, held := time-1, calm >= time && time > 1
				if kind == impl.DebounceEager {
					from, held = 0, calm > 0 && calm < time
				}
				for i := from; i < calm; i++ {
					want[i] = 2
				}
				if held {
					want[calm] = 2
				}
				if last, shown, ok := impl.DebounceRun(d, up); !ok || !slices.Equal(shown, want) || last.Last != 0 {
					t.Errorf("kind %d, time %d: the last of %d samples is up, but shown are %v, %v, want %v", kind, time, calm+1, shown, ok, want)
				}
				checkPromise3(t, kind, time, 2, down)
				checkPromise3(t, kind, time, 2, up)
			}

			// The last sample is a stable place of its own for the time 1 alone.
			if on, found := impl.LastStable(down, time, 1); found != (calm >= time || time == 1) || on != (time == 1) {
				t.Errorf("LastStable(%v, %d, 1) = %v, %v", down, time, on, found)
			}
			if on, found := impl.LastStable(up, time, 1); found != (calm >= time || time == 1) || on != (calm >= time && time > 1) {
				t.Errorf("LastStable(%v, %d, 1) = %v, %v", up, time, on, found)
			}
			if got := impl.CountChanges(down, 1); got != 1 {
				t.Errorf("CountChanges(%v, 1) = %d, want 1", down, got)
			}
			if got := impl.CountChanges(up, 1); calm > 0 && got != 2 {
				t.Errorf("CountChanges(%v, 1) = %d, want 2", up, got)
			}
			if calm > 0 && (!impl.IsSpaced(up, 1, calm) || impl.IsSpaced(up, 1, calm+1)) {
				t.Errorf("IsSpaced(%v, 1, n) is wrong for n = %d or %d", up, calm, calm+1)
			}
		}
	}
}

func TestLastStable(t *testing.T) {
	cases := []struct {
		samples   string
		time      int
		on, found bool
	}{
		{"", 1, false, false},
		{"x", 1, true, true},
		{".", 1, false, true},
		{"x", 2, false, false},
		{"xx.", 2, true, true},
		{"xx.", 1, false, true},
		{"xx..", 2, false, true},
		{"xx.x.x", 2, true, true},
		{"xx.x.x", 3, false, false},
		{"x.x.x.", 2, false, false},
		{"..x.xxx.x", 3, true, true},
		{"..x.xxx.x", 2, true, true},
		{"xxx...x.x", 3, false, true},
		{"xxx...x.x", 4, false, false},
		{"xxxxxxxxxxxxxxxxxxxx", 20, true, true},
		{"xxxxxxxxxxxxxxxxxxx", 20, false, false},
		{".xxxxxxxxxxxxxxxxxxx", 20, false, false},
		{"....................x", 20, false, true},
	}
	for _, c := range cases {
		bits := masksOfRows(c.samples)
		for key := range switches {
			// The other keys are down all the time: only the one that is asked for counts.
			samples := slices.Clone(bits)
			for i := range samples {
				samples[i] = samples[i]<<key | (1<<switches-1)&^(1<<key)
			}
			if on, found := impl.LastStable(samples, c.time, key); on != c.on || found != c.found {
				t.Errorf("LastStable(%q, %d, %d) = %v, %v, want %v, %v", c.samples, c.time, key, on, found, c.on, c.found)
			}
		}
	}
}

func TestLastStableOfAllShortLists(t *testing.T) {
	for n := range 10 {
		for bits := range 1 << n {
			samples := make([]int, n)
			for i := range samples {
				// The bits beside that of key 3 change from sample to sample.
				samples[i] = bits>>i&1<<3 | i&7
			}
			for time := 1; time <= 11; time++ {
				want, wantFound := false, false
				for i := range samples {
					if stableAt(samples, i, time, 8) {
						want, wantFound = bitAt(samples[i], 3), true
					}
				}
				if on, found := impl.LastStable(samples, time, 3); on != want || found != wantFound {
					t.Fatalf("LastStable(%v, %d, 3) = %v, %v, want %v, %v", samples, time, on, found, want, wantFound)
				}
			}
		}
	}
}

func TestLastStableRejects(t *testing.T) {
	on := slices.Repeat([]int{-1}, 120)
	for _, time := range []int{0, -1, impl.MaxDebounce + 1, 100, math.MaxInt, math.MinInt} {
		if got, found := impl.LastStable(on, time, 0); got || found {
			t.Errorf("LastStable(on, %d, 0) = %v, %v, want false, false", time, got, found)
		}
	}
	for _, key := range noSwitches {
		for _, samples := range [][]int{nil, {0}, on} {
			if got, found := impl.LastStable(samples, 1, key); got || found {
				t.Errorf("LastStable(%v, 1, %d) = %v, %v, want false, false", samples, key, got, found)
			}
		}
	}
	if got, found := impl.LastStable(on, impl.MaxDebounce, switches-1); !got || !found {
		t.Errorf("LastStable(on, MaxDebounce, %d) = %v, %v, want true, true", switches-1, got, found)
	}
}

func TestCountChangesAndIsSpaced(t *testing.T) {
	cases := []struct {
		masks   []int
		key     int
		changes int
		space   int // the greatest n for which the changes are spaced; 0 if there are less than two
	}{
		{nil, 0, 0, 0},
		{[]int{0}, 0, 0, 0},
		{[]int{1}, 0, 1, 0},
		{[]int{1, 1}, 0, 1, 0},
		{[]int{0, 1}, 0, 1, 0},
		{[]int{1, 0}, 0, 2, 1},
		{[]int{1, 0, 0, 1}, 0, 3, 1},
		{[]int{1, 1, 0}, 0, 2, 2},
		{[]int{0, 1, 1, 1, 0}, 0, 2, 3},
		{[]int{1, 1, 1, 0, 0, 1, 1, 1}, 0, 3, 2},
		{[]int{1, 1, 1, 0, 0, 0, 0, 1}, 0, 3, 3},
		{[]int{1, 1, 0, 0, 1, 0}, 0, 4, 1},
		{[]int{0, 0, 0, 0, 0, 0, 1}, 0, 1, 0}, // the places before the first change do not count
		{[]int{1, 3, 1, 3, 0}, 0, 2, 4},
		{[]int{1, 3, 1, 3, 0}, 1, 4, 1},
		{[]int{1, 3, 1, 3, 0}, 2, 0, 0},
		{[]int{1 << 23, 1 << 23, 1<<23 - 1}, 23, 2, 2},
		{[]int{1 << 24, 1 << 25, 0}, 23, 0, 0},
		// masks may be any numbers
		{[]int{-1, 0, -1}, 5, 3, 1},
		{[]int{-2, -2, -1, -2}, 0, 2, 1},
		{[]int{-1 << 23, -1 << 24}, 23, 2, 1},
		{[]int{math.MinInt, math.MaxInt, math.MaxInt, math.MinInt}, 23, 2, 2},
	}
	for _, c := range cases {
		if got := impl.CountChanges(c.masks, c.key); got != c.changes {
			t.Errorf("CountChanges(%v, %d) = %d, want %d", c.masks, c.key, got, c.changes)
		}
		for _, n := range []int{math.MinInt, -1, 0, 1, 2, 3, 4, 5, 200, math.MaxInt} {
			want := c.changes < 2 || n <= c.space
			if got := impl.IsSpaced(c.masks, c.key, n); got != want {
				t.Errorf("IsSpaced(%v, %d, %d) = %v", c.masks, c.key, n, got)
			}
		}
	}
}

func TestIsSpacedOfAllShortLists(t *testing.T) {
	for n := range 10 {
		for bits := range 1 << n {
			masks := make([]int, n)
			for i := range masks {
				masks[i] = bits>>i&1<<3 | i&7
			}
			changes := changesAt(masks, 3)
			if got := impl.CountChanges(masks, 3); got != len(changes) {
				t.Fatalf("CountChanges(%v, 3) = %d, want %d", masks, got, len(changes))
			}
			for space := range 11 {
				want := true
				for i := 1; i < len(changes); i++ {
					want = want && changes[i]-changes[i-1] >= space
				}
				if got := impl.IsSpaced(masks, 3, space); got != want {
					t.Fatalf("IsSpaced(%v, 3, %d) = %v", masks, space, got)
				}
			}
		}
	}
}

func TestChangesOfKeysThatAreNoSwitches(t *testing.T) {
	for _, key := range noSwitches {
		for _, masks := range [][]int{nil, {0}, {-1}, {-1, 0}, {-1, 0, -1}, {math.MaxInt, math.MinInt}} {
			if got := impl.CountChanges(masks, key); got != 0 {
				t.Errorf("CountChanges(%v, %d) = %d, want 0", masks, key, got)
			}
			for _, n := range []int{math.MinInt, 0, 1, math.MaxInt} {
				if impl.IsSpaced(masks, key, n) {
					t.Errorf("IsSpaced(%v, %d, %d) = true", masks, key, n)
				}
			}
		}
	}
}

// overwrite changes all the memory that a slice may reach, so that a slice that shares it changes as well.
func overwrite(l []int) {
	l = l[:cap(l)]
	for i := range l {
		l[i] = -7
	}
}

func TestDebouncingLeavesItsArguments(t *testing.T) {
	for _, kind := range debounceKinds {
		ages := []int{5, 0, 99, 11, 12}
		d := impl.Debouncer{Kind: kind, Time: 1, Keys: 3, Shown: 1, Last: 5, Ages: ages[:3]}
		samples := []int{1, 2, 4, 6, 21, 22}
		for n := range 5 {
			got, shown, ok := impl.DebounceRun(d, samples[:n])
			if !ok {
				t.Fatalf("kind %d: DebounceRun of %d samples fails", kind, n)
			}
			before := slices.Clone(got.Ages)
			overwrite(shown)
			if !slices.Equal(got.Ages, before) {
				t.Errorf("kind %d: the masks of DebounceRun share memory with its debouncer", kind)
			}
			overwrite(got.Ages)
		}
		if got, ok := impl.DebounceStep(d, 2); ok {
			overwrite(got.Ages)
		}
		impl.LastStable(samples[:4], 1, 0)
		impl.CountChanges(samples[:4], 0)
		impl.IsSpaced(samples[:4], 0, 1)
		if !slices.Equal(ages, []int{5, 0, 99, 11, 12}) {
			t.Errorf("kind %d: the ages of the argument have become %v", kind, ages)
		}
		if !slices.Equal(samples, []int{1, 2, 4, 6, 21, 22}) {
			t.Errorf("kind %d: the samples of the argument have become %v", kind, samples)
		}
	}
	one := newDebouncer(t, impl.DebounceKey, 1, 2)
	overwrite(one.Ages)
	if other := newDebouncer(t, impl.DebounceKey, 1, 2); !slices.Equal(other.Ages, []int{99, 99}) {
		t.Errorf("two new debouncers share their ages: %v", other.Ages)
	}
}
