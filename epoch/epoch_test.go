package epoch_test

import (
	"math"
	"math/big"
	"testing"

	"paternoster/api"
	"paternoster/epoch"
)

// The greatest count, and how many cars there may be, told anew.
const (
	mostCount = 4294967295
	mostCars  = 16
)

// counts are counts of all kinds, rising.
func counts() []int64 {
	return []int64{
		math.MinInt64, math.MinInt64 + 1, -mostCount - 1, -mostCount, -1 << 31, -2, -1,
		0, 1, 2, 9, 10, 11, 255, 256, 1<<31 - 1, 1 << 31, mostCount - 1, mostCount,
		mostCount + 1, mostCount + 2, mostCount + 3, 1 << 33, math.MaxInt64 - 1, math.MaxInt64,
	}
}

// founders are founders of all kinds, rising.
func founders() []int {
	return []int{
		math.MinInt, math.MinInt + 1, -1 << 31, -17, -16, -2, -1,
		0, 1, 2, 9, 10, 14, 15, 16, 17, 255, 256, 1<<31 - 1, math.MaxInt - 1, math.MaxInt,
	}
}

// ordered are epochs of all kinds, rising: by count, then by founder.
func ordered() []api.Epoch {
	var out []api.Epoch
	for _, count := range counts() {
		for _, founder := range founders() {
			out = append(out, api.Epoch{Count: count, Founder: founder})
		}
	}
	return out
}

// checkNext holds what Next answers against what it has to; the zero epoch stands for false.
func checkNext(t *testing.T, seen int64, founder int, want api.Epoch) {
	t.Helper()
	if e, ok := epoch.Next(seen, founder); e != want || ok != (want != api.Epoch{}) {
		t.Errorf("Next(%d, %d) = %v, %v, not %v", seen, founder, e, ok, want)
	}
}

// P4.1

func TestNone(t *testing.T) {
	for _, x := range []struct {
		count int64
		want  bool
	}{
		{0, true}, {1, false}, {2, false}, {mostCount, false}, {mostCount + 1, false}, {1 << 40, false},
		{-1, false}, {-mostCount, false}, {math.MaxInt64, false}, {math.MinInt64, false},
	} {
		for _, founder := range founders() {
			e := api.Epoch{Count: x.count, Founder: founder}
			if got := epoch.None(e); got != x.want {
				t.Errorf("None(%v) = %v", e, got)
			}
		}
	}
}

func TestValidByCount(t *testing.T) {
	for _, x := range []struct {
		count int64
		want  bool
	}{
		{0, false}, {1, true}, {2, true}, {1<<31 - 1, true}, {1 << 31, true}, {mostCount - 1, true}, {mostCount, true},
		{mostCount + 1, false}, {mostCount + 2, false}, {1 << 40, false}, {math.MaxInt64, false},
		{-1, false}, {-2, false}, {-mostCount, false}, {-mostCount - 1, false}, {math.MinInt64, false}, {math.MinInt64 + 1, false},
	} {
		for founder := range mostCars {
			e := api.Epoch{Count: x.count, Founder: founder}
			if got := epoch.Valid(e); got != x.want {
				t.Errorf("Valid(%v) = %v", e, got)
			}
		}
	}
}

func TestValidByFounder(t *testing.T) {
	for _, x := range []struct {
		founder int
		want    bool
	}{
		{0, true}, {1, true}, {7, true}, {14, true}, {15, true}, {16, false}, {17, false}, {32, false}, {256, false}, {math.MaxInt, false},
		{-1, false}, {-2, false}, {-15, false}, {-16, false}, {math.MinInt, false},
	} {
		for _, count := range []int64{1, 2, 300, mostCount - 1, mostCount} {
			e := api.Epoch{Count: count, Founder: x.founder}
			if got := epoch.Valid(e); got != x.want {
				t.Errorf("Valid(%v) = %v", e, got)
			}
		}
	}
}

func TestValidOfBothWrong(t *testing.T) {
	for _, count := range []int64{0, -1, mostCount + 1, math.MinInt64, math.MaxInt64} {
		for _, founder := range []int{-1, 16, math.MinInt, math.MaxInt} {
			if e := (api.Epoch{Count: count, Founder: founder}); epoch.Valid(e) {
				t.Errorf("Valid(%v)", e)
			}
		}
	}
}

func TestLess(t *testing.T) {
	for _, x := range []struct {
		a, b         api.Epoch
		less, behind bool
	}{
		{api.Epoch{Count: 1, Founder: 2}, api.Epoch{Count: 1, Founder: 3}, true, false},
		{api.Epoch{Count: 1, Founder: 9}, api.Epoch{Count: 1, Founder: 10}, true, false},
		{api.Epoch{Count: 1, Founder: 3}, api.Epoch{Count: 2, Founder: 3}, true, false},
		{api.Epoch{Count: 1, Founder: 15}, api.Epoch{Count: 2, Founder: 0}, true, false},
		{api.Epoch{Count: 1, Founder: 0}, api.Epoch{Count: 2, Founder: 15}, true, false},
		{api.Epoch{Count: 9}, api.Epoch{Count: 10}, true, false},
		{api.Epoch{Founder: 15}, api.Epoch{Count: 1}, true, false},
		{api.Epoch{}, api.Epoch{Founder: 1}, true, false},
		{api.Epoch{Count: -1}, api.Epoch{}, true, false},
		{api.Epoch{Count: math.MinInt64}, api.Epoch{Count: math.MaxInt64}, true, false},
		{api.Epoch{Count: 4, Founder: math.MinInt}, api.Epoch{Count: 4, Founder: math.MaxInt}, true, false},
		{api.Epoch{}, api.Epoch{}, false, false},
		{api.Epoch{Count: 5, Founder: 6}, api.Epoch{Count: 5, Founder: 6}, false, false},
	} {
		if epoch.Less(x.a, x.b) != x.less || epoch.Less(x.b, x.a) != x.behind {
			t.Errorf("Less of %v and %v: %v, and turned round %v", x.a, x.b, epoch.Less(x.a, x.b), epoch.Less(x.b, x.a))
		}
	}
}

func TestLessOfAll(t *testing.T) {
	all := ordered()
	for i, a := range all {
		for k, b := range all {
			if got := epoch.Less(a, b); got != (i < k) {
				t.Fatalf("Less(%v, %v) = %v", a, b, got)
			}
		}
	}
}

func TestNext(t *testing.T) {
	none := api.Epoch{}
	for _, x := range []struct {
		seen    int64
		founder int
		want    api.Epoch
	}{
		{0, 3, api.Epoch{Count: 1, Founder: 3}},
		{0, 0, api.Epoch{Count: 1}},
		{0, 15, api.Epoch{Count: 1, Founder: 15}},
		{1, 0, api.Epoch{Count: 2}},
		{41, 7, api.Epoch{Count: 42, Founder: 7}},
		{1<<31 - 1, 1, api.Epoch{Count: 1 << 31, Founder: 1}},
		{mostCount - 2, 15, api.Epoch{Count: mostCount - 1, Founder: 15}},
		{mostCount - 1, 0, api.Epoch{Count: mostCount}},
		{mostCount - 1, 15, api.Epoch{Count: mostCount, Founder: 15}},
		{mostCount, 0, none},
		{mostCount, 15, none},
		{mostCount + 1, 3, none},
		{1 << 40, 3, none},
		{math.MaxInt64 - 1, 3, none},
		{math.MaxInt64, 0, none},
		{math.MaxInt64, 15, none},
		{-1, 0, none},
		{-1, 3, none},
		{-2, 3, none},
		{math.MinInt64, 0, none},
		{math.MinInt64, 3, none},
		{5, 16, none},
		{5, 17, none},
		{5, -1, none},
		{0, 16, none},
		{0, -1, none},
		{5, math.MaxInt, none},
		{5, math.MinInt, none},
		{mostCount, 16, none},
		{-1, -1, none},
	} {
		checkNext(t, x.seen, x.founder, x.want)
	}
}

// TestNextOfAll counts without bounds.
func TestNextOfAll(t *testing.T) {
	one, most := big.NewInt(1), big.NewInt(mostCount)
	for _, seen := range counts() {
		for _, founder := range founders() {
			want := api.Epoch{}
			count := new(big.Int).Add(big.NewInt(seen), one)
			if count.Cmp(one) >= 0 && count.Cmp(most) <= 0 && founder >= 0 && founder < mostCars {
				want = api.Epoch{Count: count.Int64(), Founder: founder}
			}
			checkNext(t, seen, founder, want)
		}
	}
}

func TestNextIsValidAndLater(t *testing.T) {
	for seen := range int64(300) {
		for founder := range mostCars {
			e, ok := epoch.Next(seen, founder)
			if !ok || !epoch.Valid(e) || epoch.None(e) {
				t.Fatalf("Next(%d, %d) = %v, %v", seen, founder, e, ok)
			}
			for was := range mostCars {
				if seenOne := (api.Epoch{Count: seen, Founder: was}); !epoch.Less(seenOne, e) {
					t.Fatalf("%v is not less than what comes next, %v", seenOne, e)
				}
			}
		}
	}
}

func TestText(t *testing.T) {
	for _, x := range []struct {
		e    api.Epoch
		want string
	}{
		{api.Epoch{}, "0.0"},
		{api.Epoch{Founder: 3}, "0.3"},
		{api.Epoch{Count: 1}, "1.0"},
		{api.Epoch{Count: 1, Founder: 3}, "1.3"},
		{api.Epoch{Count: 3, Founder: 1}, "3.1"},
		{api.Epoch{Count: 9, Founder: 9}, "9.9"},
		{api.Epoch{Count: 10, Founder: 10}, "10.10"},
		{api.Epoch{Count: 7, Founder: 15}, "7.15"},
		{api.Epoch{Count: 1, Founder: 16}, "1.16"},
		{api.Epoch{Count: 100, Founder: 0}, "100.0"},
		{api.Epoch{Count: 1234567, Founder: 12}, "1234567.12"},
		{api.Epoch{Count: mostCount, Founder: 15}, "4294967295.15"},
		{api.Epoch{Count: mostCount + 1, Founder: 256}, "4294967296.256"},
		{api.Epoch{Count: -1}, "-1.0"},
		{api.Epoch{Count: 1, Founder: -1}, "1.-1"},
		{api.Epoch{Count: -12, Founder: -34}, "-12.-34"},
		{api.Epoch{Count: math.MaxInt64}, "9223372036854775807.0"},
		{api.Epoch{Count: math.MinInt64}, "-9223372036854775808.0"},
		{api.Epoch{Founder: math.MaxInt32}, "0.2147483647"},
		{api.Epoch{Founder: math.MinInt32}, "0.-2147483648"},
	} {
		if got := epoch.Text(x.e); got != x.want {
			t.Errorf("Text(%v) = %q, not %q", x.e, got, x.want)
		}
	}
}

func TestTextOfAll(t *testing.T) {
	for _, e := range ordered() {
		want := big.NewInt(e.Count).String() + "." + big.NewInt(int64(e.Founder)).String()
		if got := epoch.Text(e); got != want {
			t.Errorf("Text(%v) = %q, not %q", e, got, want)
		}
	}
}

func TestTextOfNext(t *testing.T) {
	if e, ok := epoch.Next(0, 3); !ok || epoch.Text(e) != "1.3" {
		t.Errorf("Next(0, 3): %s, %v, not 1.3", epoch.Text(e), ok)
	}
}
