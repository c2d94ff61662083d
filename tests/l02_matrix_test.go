package tests

import (
	"math"
	"strings"
	"testing"

	"loop.example/g03414/impl"
)

// matrices are all valid ones.
func matrices() []impl.Matrix {
	var l []impl.Matrix
	for rows := 1; rows <= impl.MaxRows; rows++ {
		for cols := 1; cols <= impl.MaxCols; cols++ {
			l = append(l, impl.Matrix{Rows: rows, Cols: cols}, impl.Matrix{Rows: rows, Cols: cols, Diodes: true})
		}
	}
	return l
}

func badMatrices() []impl.Matrix {
	var l []impl.Matrix
	sizes := [][2]int{
		{0, 0}, {0, 1}, {1, 0}, {0, 6}, {4, 0},
		{-1, 1}, {1, -1}, {-1, -1}, {-2, -3},
		{impl.MaxRows + 1, 1}, {1, impl.MaxCols + 1}, {impl.MaxRows + 1, impl.MaxCols + 1}, {6, 4},
		// products that overflow, to 0 and to numbers of keys that would be fine
		{1 << 32, 1 << 32}, {math.MaxInt, math.MaxInt}, {math.MinInt, math.MinInt}, {math.MinInt, 2},
		{1, math.MaxInt}, {math.MaxInt, 1}, {1, math.MinInt}, {math.MinInt, 1},
	}
	for _, s := range sizes {
		l = append(l, impl.Matrix{Rows: s[0], Cols: s[1]}, impl.Matrix{Rows: s[0], Cols: s[1], Diodes: true})
	}
	return l
}

// badMasks are numbers that are no masks of the valid matrix.
func badMasks(m impl.Matrix) []int {
	most := 1<<(m.Rows*m.Cols) - 1
	return []int{-1, -2, ^most, most + 1, most + 2, 2*most + 1, 1 << 62, math.MaxInt, math.MinInt}
}

// someMasks are all masks of a matrix of at most ten keys, and a fixed choice of those of a larger one.
func someMasks(m impl.Matrix) []int {
	n := m.Rows * m.Cols
	var l []int
	if n <= 10 {
		for mask := range 1 << n {
			l = append(l, mask)
		}
		return l
	}
	l = append(l, 0, 1<<n-1)
	for k := range n {
		l = append(l, 1<<k, 1<<n-1-1<<k)
	}
	x := uint64(n)
	next := func() int {
		x = x*6364136223846793005 + 1442695040888963407
		return int(x>>33) & (1<<n - 1)
	}
	for range 120 {
		// Masks of few keys are among them, too, because most masks of many keys are read as all keys.
		l = append(l, next(), next()&next(), next()&next()&next())
	}
	return l
}

// readByPaths follows the current switch by switch, row by row.
func readByPaths(m impl.Matrix, pressed int) int {
	if m.Diodes {
		return pressed
	}
	read := 0
	for from := range m.Rows {
		rows, cols := map[int]bool{from: true}, map[int]bool{}
		for range m.Rows * m.Cols {
			for k := range m.Rows * m.Cols {
				r, c := k/m.Cols, k%m.Cols
				if pressed>>k&1 == 1 && (rows[r] || cols[c]) {
					rows[r], cols[c] = true, true
				}
			}
		}
		for c := range cols {
			read |= 1 << (from*m.Cols + c)
		}
	}
	return read
}

func TestIsMatrixAndKeyCount(t *testing.T) {
	count := 0
	for rows := -2; rows <= impl.MaxRows+3; rows++ {
		for cols := -2; cols <= impl.MaxCols+3; cols++ {
			for _, diodes := range []bool{false, true} {
				m := impl.Matrix{Rows: rows, Cols: cols, Diodes: diodes}
				want := rows >= 1 && rows <= 4 && cols >= 1 && cols <= 6
				keys := 0
				if want {
					keys = rows * cols
					count++
				}
				if got := impl.IsMatrix(m); got != want {
					t.Errorf("IsMatrix(%v) = %v", m, got)
				}
				if got := impl.KeyCount(m); got != keys {
					t.Errorf("KeyCount(%v) = %d, want %d", m, got, keys)
				}
			}
		}
	}
	if count != 48 {
		t.Errorf("%d matrices are valid, want 48", count)
	}
	for _, m := range badMatrices() {
		if impl.IsMatrix(m) {
			t.Errorf("IsMatrix(%v) = true", m)
		}
		if got := impl.KeyCount(m); got != 0 {
			t.Errorf("KeyCount(%v) = %d, want 0", m, got)
		}
	}
}

func TestIsMask(t *testing.T) {
	for _, m := range matrices() {
		most := 1<<(m.Rows*m.Cols) - 1
		for _, mask := range []int{0, 1, most / 2, most - 1, most} {
			if !impl.IsMask(m, mask) {
				t.Errorf("IsMask(%v, %d) = false", m, mask)
			}
		}
		for _, mask := range badMasks(m) {
			if impl.IsMask(m, mask) {
				t.Errorf("IsMask(%v, %d) = true", m, mask)
			}
		}
	}
	for _, m := range badMatrices() {
		for _, mask := range []int{0, 1, -1, 63, math.MaxInt, math.MinInt} {
			if impl.IsMask(m, mask) {
				t.Errorf("IsMask(%v, %d) = true", m, mask)
			}
		}
	}
}

// drawn is the matrix without diodes and the mask of a picture: rows from above, x for a key of the mask.
func drawn(picture string) (impl.Matrix, int) {
	rows := strings.Split(picture, "/")
	m := impl.Matrix{Rows: len(rows), Cols: len(rows[0])}
	mask := 0
	for r, row := range rows {
		for c := range row {
			if row[c] == 'x' {
				mask |= 1 << (r*m.Cols + c)
			}
		}
	}
	return m, mask
}

func TestReadMatrix(t *testing.T) {
	cases := []struct{ pressed, read string }{
		{".", "."},
		{"x", "x"},
		{"x.xx.x", "x.xx.x"}, // one row or one column has no rectangle
		{"x/x/./x", "x/x/./x"},
		{"../..", "../.."},
		{"xx/x.", "xx/xx"}, // three corners, each time another one is left
		{"xx/.x", "xx/xx"},
		{"x./xx", "xx/xx"},
		{".x/xx", "xx/xx"},
		{"xx/xx", "xx/xx"},
		{"x./.x", "x./.x"}, // two corners
		{".x/x.", ".x/x."},
		{"xx/..", "xx/.."},
		{"x./x.", "x./x."},
		{"xxx/x..", "xxx/xxx"},
		{"xx./..x", "xx./..x"},
		{"xx/x./..", "xx/xx/.."},
		{"xx/x./.x", "xx/xx/xx"},
		{"xx./.xx/...", "xxx/xxx/..."},
		{"xx./.xx/..x", "xxx/xxx/xxx"},
		{"x../.xx/.x.", "x../.xx/.xx"},
		{"x.../.x../..x./...x", "x.../.x../..x./...x"},
		{"x...../....../....../x....x", "x....x/....../....../x....x"},
		{"xx..../x...../...xx./....x.", "xx..../xx..../...xx./...xx."},
		{"xxxxxx/x...../....../.....x", "xxxxxx/xxxxxx/....../xxxxxx"},
		// a path through all rows, whose columns go down and up
		{"x....x/x...x./.x..x./.x....", "xx..xx/xx..xx/xx..xx/xx..xx"},
		{".x..../.x..x./x...x./x....x", "xx..xx/xx..xx/xx..xx/xx..xx"},
		{"....xx/..x.x./..xx../...x..", "..xxxx/..xxxx/..xxxx/..xxxx"},
	}
	for _, c := range cases {
		m, pressed := drawn(c.pressed)
		_, want := drawn(c.read)
		if got, ok := impl.ReadMatrix(m, pressed); !ok || got != want {
			t.Errorf("ReadMatrix(%s) = %b, %v, want %s, true", c.pressed, got, ok, c.read)
		}
		if got, ok := impl.GhostsOf(m, pressed); !ok || got != want-pressed {
			t.Errorf("GhostsOf(%s) = %b, %v, want the other keys of %s, true", c.pressed, got, ok, c.read)
		}
		if got := impl.IsReading(m, pressed); got != (c.pressed == c.read) {
			t.Errorf("IsReading(%s) = %v", c.pressed, got)
		}
		if !impl.IsReading(m, want) {
			t.Errorf("IsReading(%s) = false", c.read)
		}
		m.Diodes = true
		if got, ok := impl.ReadMatrix(m, pressed); !ok || got != pressed {
			t.Errorf("with diodes ReadMatrix(%s) = %b, %v, want it itself, true", c.pressed, got, ok)
		}
		if got, ok := impl.GhostsOf(m, pressed); !ok || got != 0 {
			t.Errorf("with diodes GhostsOf(%s) = %b, %v, want 0, true", c.pressed, got, ok)
		}
	}
}

func TestReadMatrixFollowsPaths(t *testing.T) {
	for _, m := range matrices() {
		for _, pressed := range someMasks(m) {
			want := readByPaths(m, pressed)
			if got, ok := impl.ReadMatrix(m, pressed); !ok || got != want {
				t.Fatalf("ReadMatrix(%v, %b) = %b, %v, want %b, true", m, pressed, got, ok, want)
			}
			if got, ok := impl.GhostsOf(m, pressed); !ok || got != want&^pressed {
				t.Fatalf("GhostsOf(%v, %b) = %b, %v, want %b, true", m, pressed, got, ok, want&^pressed)
			}
			if got := impl.IsReading(m, pressed); got != (want == pressed) {
				t.Fatalf("IsReading(%v, %b) = %v", m, pressed, got)
			}
			if !impl.IsReading(m, want) {
				t.Fatalf("IsReading(%v, %b) = false, but it is read for %b", m, want, pressed)
			}
		}
	}
}

func TestMasksThatAreNotValid(t *testing.T) {
	check := func(m impl.Matrix, mask int) {
		if got, ok := impl.ReadMatrix(m, mask); ok || got != 0 {
			t.Errorf("ReadMatrix(%v, %d) = %d, %v, want 0, false", m, mask, got, ok)
		}
		if got, ok := impl.GhostsOf(m, mask); ok || got != 0 {
			t.Errorf("GhostsOf(%v, %d) = %d, %v, want 0, false", m, mask, got, ok)
		}
		if impl.IsReading(m, mask) {
			t.Errorf("IsReading(%v, %d) = true", m, mask)
		}
		if got := impl.ClearKeys(m, mask); got != 0 {
			t.Errorf("ClearKeys(%v, %d) = %d, want 0", m, mask, got)
		}
		for _, key := range []int{-1, 0, 1, 24, 62, 63, 64, math.MaxInt, math.MinInt} {
			if got, ok := impl.Alternative(m, mask, key); ok || got != 0 {
				t.Errorf("Alternative(%v, %d, %d) = %d, %v, want 0, false", m, mask, key, got, ok)
			}
		}
		for _, pair := range [][2]int{{mask, 0}, {0, mask}, {mask, mask}, {mask, 1}, {1, mask}} {
			if got, ok := impl.AcceptReading(m, pair[0], pair[1]); ok || got != 0 {
				t.Errorf("AcceptReading(%v, %d, %d) = %d, %v, want 0, false", m, pair[0], pair[1], got, ok)
			}
		}
	}
	for _, m := range matrices() {
		for _, mask := range badMasks(m) {
			check(m, mask)
		}
	}
	for _, m := range badMatrices() {
		for _, mask := range []int{0, 1, 3, 15, -1, math.MaxInt, math.MinInt} {
			check(m, mask)
		}
	}
}

func TestThreeCornersOfARectangle(t *testing.T) {
	for _, m := range matrices() {
		if m.Diodes {
			continue
		}
		for left := range m.Cols {
			for right := left + 1; right < m.Cols; right++ {
				for upper := range m.Rows {
					for lower := upper + 1; lower < m.Rows; lower++ {
						checkRectangle(t, m, []int{
							upper*m.Cols + left, upper*m.Cols + right, lower*m.Cols + left, lower*m.Cols + right,
						})
					}
				}
			}
		}
	}
}

func checkRectangle(t *testing.T, m impl.Matrix, corners []int) {
	all := 0
	for _, k := range corners {
		all |= 1 << k
	}
	if !impl.IsReading(m, all) || impl.ClearKeys(m, all) != 0 {
		t.Errorf("%v: the rectangle %b is no reading or has certain keys", m, all)
	}
	for _, k := range corners {
		three := all - 1<<k
		if got, ok := impl.ReadMatrix(m, three); !ok || got != all {
			t.Errorf("ReadMatrix(%v, %b) = %b, %v, want %b, true", m, three, got, ok, all)
		}
		if got, ok := impl.GhostsOf(m, three); !ok || got != 1<<k {
			t.Errorf("GhostsOf(%v, %b) = %b, %v, want %b, true", m, three, got, ok, 1<<k)
		}
		if impl.IsReading(m, three) {
			t.Errorf("IsReading(%v, %b) = true", m, three)
		}
		if got := impl.ClearKeys(m, three); got != 0 {
			t.Errorf("ClearKeys(%v, %b) = %b, want 0: it is no reading", m, three, got)
		}
		if got, ok := impl.Alternative(m, all, k); !ok || got != three {
			t.Errorf("Alternative(%v, %b, %d) = %b, %v, want %b, true", m, all, k, got, ok, three)
		}
		if got, ok := impl.AcceptReading(m, three, all); !ok || got != three {
			t.Errorf("AcceptReading(%v, %b, %b) = %b, %v, want old, true", m, three, all, got, ok)
		}
		if got, ok := impl.AcceptReading(m, 0, three); ok || got != 0 {
			t.Errorf("AcceptReading(%v, 0, %b) = %b, %v, want 0, false", m, three, got, ok)
		}
		for _, other := range corners {
			if two := three &^ (1 << other); other != k && !impl.IsReading(m, two) {
				t.Errorf("IsReading(%v, %b) = false", m, two)
			}
		}
	}

	m.Diodes = true
	three := all - 1<<corners[3]
	if got, ok := impl.AcceptReading(m, 0, three); !ok || got != three || impl.ClearKeys(m, all) != all {
		t.Errorf("with diodes AcceptReading(%v, 0, %b) = %b, %v, want the reading, true", m, three, got, ok)
	}
}

func TestAlternative(t *testing.T) {
	cases := []struct {
		reading string
		key     int
		want    string
	}{
		{"xx/xx", 0, ".x/xx"},
		{"xx/xx", 3, "xx/x."},
		{"xx./xx./..x", 1, "x../xx./..x"},
		{"xxx/xxx/xxx", 4, "xxx/x.x/xxx"},
		{"xxxxxx/....../....../xxxxxx", 23, "xxxxxx/....../....../xxxxx."},
		// certain keys
		{"x", 0, ""},
		{"xxxxxx", 3, ""},
		{"x/x/./x", 3, ""},
		{"x./.x", 0, ""},
		{"xx./xx./..x", 8, ""},
		// keys that are not in the reading or that the matrix does not have
		{"..", 0, ""},
		{"xx./xx./..x", 2, ""},
		{"xx/xx", -1, ""},
		{"xx/xx", 4, ""},
		{"xx/xx", 63, ""},
		{"xx/xx", 64, ""},
		{"xx/xx", math.MaxInt, ""},
		{"xx/xx", math.MinInt, ""},
		// no readings
		{"xx/x.", 0, ""},
		{"xx/x.", 3, ""},
		{"xxx/xxx/xx.", 4, ""},
		{"xxx/x.x/xxx", 0, ""}, // without this key, too, all nine are read, but the mask itself is not
	}
	for _, c := range cases {
		m, reading := drawn(c.reading)
		want := 0
		if c.want != "" {
			_, want = drawn(c.want)
		}
		if got, ok := impl.Alternative(m, reading, c.key); got != want || ok != (c.want != "") {
			t.Errorf("Alternative(%s, %d) = %b, %v, want %q", c.reading, c.key, got, ok, c.want)
		}
		m.Diodes = true
		if got, ok := impl.Alternative(m, reading, c.key); ok || got != 0 {
			t.Errorf("with diodes Alternative(%s, %d) = %b, %v, want 0, false", c.reading, c.key, got, ok)
		}
	}
}

func TestClearKeysAndAcceptReading(t *testing.T) {
	cases := []struct{ reading, certain, old, want string }{
		{"../..", "../..", "xx/xx", "../.."}, // what is not read is up
		{"xx/..", "xx/..", "../..", "xx/.."}, // what is certain is accepted
		{"x./.x", "x./.x", "../..", "x./.x"},
		{"xx/..", "xx/..", "../xx", "xx/.."},
		{"xx/xx", "../..", "../..", "../.."}, // what is not certain keeps its state
		{"xx/xx", "../..", "xx/..", "xx/.."},
		{"xx/xx", "../..", "xx/xx", "xx/xx"},
		{"xx./xx./..x", ".../.../..x", ".../.../...", ".../.../..x"},
		{"xx./xx./..x", ".../.../..x", "x.x/..x/xx.", "x../.../..x"},
		{"xx./xx./..x", ".../.../..x", "xxx/xxx/xxx", "xx./xx./..x"},
		{"xx..../xx..../...xx./...xx.", "....../....../....../......", "..xxx./x...../....../....x.", "....../x...../....../....x."},
		{"x....x/.x..../.x..../x....x", "....../.x..../.x..../......", ".....x/....../xxx.../......", ".....x/.x..../.x..../......"},
		{"xxxxxx/....../....../......", "xxxxxx/....../....../......", "....../xxxxxx/....../......", "xxxxxx/....../....../......"},
	}
	for _, c := range cases {
		m, reading := drawn(c.reading)
		_, certain := drawn(c.certain)
		_, old := drawn(c.old)
		_, want := drawn(c.want)
		if got := impl.ClearKeys(m, reading); got != certain {
			t.Errorf("ClearKeys(%s) = %b, want %s", c.reading, got, c.certain)
		}
		if got, ok := impl.AcceptReading(m, old, reading); !ok || got != want {
			t.Errorf("AcceptReading(%s, %s) = %b, %v, want %s, true", c.old, c.reading, got, ok, c.want)
		}
		m.Diodes = true
		if got := impl.ClearKeys(m, reading); got != reading {
			t.Errorf("with diodes ClearKeys(%s) = %b, want it itself", c.reading, got)
		}
		if got, ok := impl.AcceptReading(m, old, reading); !ok || got != reading {
			t.Errorf("with diodes AcceptReading(%s, %s) = %b, %v, want the reading, true", c.old, c.reading, got, ok)
		}
	}
}

func TestMasksThatAreNoReading(t *testing.T) {
	for _, picture := range []string{"xx/x.", ".x/xx", "xx/x./..", "xxx/x..", "xxx/x.x/xxx", "xx..../x...../...xx./...xx."} {
		m, mask := drawn(picture)
		if impl.IsReading(m, mask) {
			t.Errorf("IsReading(%s) = true", picture)
		}
		if got := impl.ClearKeys(m, mask); got != 0 {
			t.Errorf("ClearKeys(%s) = %b, want 0", picture, got)
		}
		for _, old := range []int{0, 1, mask, 1<<impl.KeyCount(m) - 1} {
			if got, ok := impl.AcceptReading(m, old, mask); ok || got != 0 {
				t.Errorf("AcceptReading(%b, %s) = %b, %v, want 0, false", old, picture, got, ok)
			}
		}
	}
}

// TestWhatIsCertainIsPressed compares the certain keys of each reading with all masks for which it is read.
func TestWhatIsCertainIsPressed(t *testing.T) {
	for _, m := range matrices() {
		n := m.Rows * m.Cols
		if n > 12 {
			continue
		}
		inAll := map[int]int{}
		for pressed := range 1 << n {
			read := readByPaths(m, pressed)
			if _, ok := inAll[read]; !ok {
				inAll[read] = 1<<n - 1
			}
			inAll[read] &= pressed
		}
		for mask := range 1 << n {
			want, reading := inAll[mask]
			if got := impl.ClearKeys(m, mask); got != want {
				t.Fatalf("ClearKeys(%v, %b) = %b, want %b", m, mask, got, want)
			}
			if got := impl.IsReading(m, mask); got != reading {
				t.Fatalf("IsReading(%v, %b) = %v", m, mask, got)
			}
			checkAlternatives(t, m, mask, want, reading)
		}
	}
}

// checkAlternatives expects one for each key of a reading that is not certain, and for no other key.
func checkAlternatives(t *testing.T, m impl.Matrix, mask int, certain int, reading bool) {
	t.Helper()
	for key := -1; key <= m.Rows*m.Cols; key++ {
		want, wantOK := 0, false
		if reading && key >= 0 && (mask&^certain)>>key&1 == 1 {
			want, wantOK = mask-1<<key, true
		}
		if got, ok := impl.Alternative(m, mask, key); got != want || ok != wantOK {
			t.Fatalf("Alternative(%v, %b, %d) = %b, %v, want %b, %v", m, mask, key, got, ok, want, wantOK)
		}
	}
}

func TestWhatIsAcceptedAnewIsCertain(t *testing.T) {
	for _, m := range matrices() {
		masks := someMasks(m)
		accepted := 0
		for i, pressed := range masks {
			reading := readByPaths(m, pressed)
			certain := impl.ClearKeys(m, reading)
			if certain&^pressed != 0 {
				t.Fatalf("ClearKeys(%v, %b) = %b, but %b is pressed", m, reading, certain, pressed)
			}
			// One run from scan to scan, and an old mask that has nothing to do with the reading.
			for _, old := range []int{accepted, masks[(7*i+3)%len(masks)]} {
				got, ok := impl.AcceptReading(m, old, reading)
				if want := reading & (old | certain); !ok || got != want {
					t.Fatalf("AcceptReading(%v, %b, %b) = %b, %v, want %b, true", m, old, reading, got, ok, want)
				}
				if fresh := got &^ old; fresh&^pressed != 0 {
					t.Fatalf("AcceptReading(%v, %b, %b) accepts %b anew, but %b is pressed", m, old, reading, fresh, pressed)
				}
			}
			accepted, _ = impl.AcceptReading(m, accepted, reading)
		}
	}
}
