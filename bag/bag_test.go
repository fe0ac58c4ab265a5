package bag

import (
	"math"
	"testing"

	"pitot/api"
)

// end is the latest tick that there is.
const end = 1125899906842624

// periods is how many ticks frames of each BAG are apart.
var periods = [...]int{12500, 25000, 50000, 100000, 200000, 400000, 800000, 1600000}

// noBags is BAGs that there are not, some of which are one if they are cut to fewer bits.
var noBags = []int{-1, 8, 9, 63, 64, 256, -8, -256, 1 << 32, 1<<32 + 1, -1 << 32, math.MaxInt, math.MinInt, math.MinInt + 1}

func mustNew(t *testing.T, bag int) *Regulator {
	t.Helper()
	r, wrong := New(bag)
	if r == nil || wrong != api.OK {
		t.Fatalf("%d: %d", bag, int(wrong))
	}
	return r
}

func wantTake(t *testing.T, r *Regulator, now int, code api.Errno) {
	t.Helper()
	if wrong := r.Take(now); wrong != code {
		t.Errorf("Take(%d): %d; want %d", now, int(wrong), int(code))
	}
}

func wantWhen(t *testing.T, r *Regulator, now, want int) {
	t.Helper()
	if at := r.When(now); at != want {
		t.Errorf("When(%d): %d; want %d", now, at, want)
	}
}

func wantCount(t *testing.T, r *Regulator, want int) {
	t.Helper()
	if n := r.Count(); n != want {
		t.Errorf("Count: %d; want %d", n, want)
	}
}

func wantBound(t *testing.T, bag, ticks, want int, code api.Errno) {
	t.Helper()
	if n, wrong := Bound(bag, ticks); n != want || wrong != code {
		t.Errorf("Bound(%d, %d): %d, %d; want %d, %d", bag, ticks, n, int(wrong), want, int(code))
	}
}

// P12.1: every BAG that there is makes one that let no frame go, and whose Period stays.
func TestNew(t *testing.T) {
	for bag, want := range periods {
		r := mustNew(t, bag)
		wantCount(t, r, 0)
		wantWhen(t, r, 0, 0)
		if n := r.Period(); n != want {
			t.Errorf("%d: %d; want %d", bag, n, want)
		}
		wantTake(t, r, 3, api.OK)
		r.Reset()
		if n := r.Period(); n != want {
			t.Errorf("%d, behind a frame: %d; want %d", bag, n, want)
		}
	}
}

// P12.1, R1: BAGs that there are not.
func TestNoBag(t *testing.T) {
	for _, bag := range noBags {
		if r, wrong := New(bag); r != nil || wrong != api.ErrArg {
			t.Errorf("%d: %v, %d", bag, r, int(wrong))
		}
	}
}

// P12.1: a nil one answers 0 and ErrNil, whatever it is asked.
func TestNil(t *testing.T) {
	var r *Regulator
	r.Reset()
	for _, now := range []int{0, 5, -1, end, end + 1, math.MaxInt, math.MinInt} {
		wantTake(t, r, now, api.ErrNil)
		wantWhen(t, r, now, 0)
	}
	wantCount(t, r, 0)
	if n := r.Period(); n != 0 {
		t.Error(n)
	}
}

// P12.2: the chapter's example.
func TestExample(t *testing.T) {
	r := mustNew(t, 0)
	wantTake(t, r, 5, api.OK)
	wantTake(t, r, 12504, api.ErrRate)
	wantTake(t, r, 12505, api.OK)
	wantCount(t, r, 2)
}

// P12.2: a frame goes a Period behind the last one, and not a tick sooner.
func TestTake(t *testing.T) {
	for bag, period := range periods {
		for _, at := range []int{0, 1, 777, end / 2} {
			r := mustNew(t, bag)
			wantTake(t, r, at, api.OK)
			if at > 0 {
				wantTake(t, r, at-1, api.ErrTime)
			}
			wantTake(t, r, at, api.ErrRate)
			wantTake(t, r, at+1, api.ErrRate)
			wantTake(t, r, at+period-1, api.ErrRate)
			wantCount(t, r, 1)
			wantTake(t, r, at+period, api.OK)
			wantTake(t, r, at+period-1, api.ErrTime)
			wantTake(t, r, at+2*period-1, api.ErrRate)
			wantTake(t, r, at+5*period, api.OK) // what was not used is not saved
			wantTake(t, r, at+5*period, api.ErrRate)
			wantTake(t, r, at+6*period-1, api.ErrRate)
			wantCount(t, r, 3)
		}
	}
}

// P12.2, R1: ticks that there are not; ErrArg is ahead of ErrTime.
func TestTakeArg(t *testing.T) {
	wrong := []int{-1, -2, end + 1, end + 12500, math.MaxInt, math.MinInt, 1 << 62, -1 << 62}
	r := mustNew(t, 0)
	for _, now := range wrong {
		wantTake(t, r, now, api.ErrArg)
	}
	wantCount(t, r, 0)
	wantTake(t, r, 0, api.OK)
	for _, now := range wrong {
		wantTake(t, r, now, api.ErrArg)
	}
	wantTake(t, r, end, api.OK)
	for _, now := range wrong {
		wantTake(t, r, now, api.ErrArg)
	}
	wantTake(t, r, end, api.ErrRate)
	wantTake(t, r, end-1, api.ErrTime)
	wantTake(t, r, 0, api.ErrTime)
	wantCount(t, r, 2)
}

// P12.2, R1: ErrTime is ahead of ErrRate, and neither changes anything.
func TestTakeRefused(t *testing.T) {
	r := mustNew(t, 1)
	wantTake(t, r, 100, api.OK)
	for range 3 {
		wantTake(t, r, 99, api.ErrTime)
		wantTake(t, r, 0, api.ErrTime)
		wantTake(t, r, 25099, api.ErrRate)
		wantTake(t, r, 101, api.ErrRate) // a tick that was refused is not one that time may not go behind
		wantTake(t, r, end+1, api.ErrArg)
		wantCount(t, r, 1)
		wantWhen(t, r, 0, 25100)
	}
	wantTake(t, r, 25100, api.OK)
}

// P12.2: When is no sooner than now, and no sooner than a Period behind the last frame.
func TestWhen(t *testing.T) {
	for bag, period := range periods {
		for _, at := range []int{0, 1, 40, end} {
			r := mustNew(t, bag)
			for _, now := range []int{0, 1, at, end, end + 1, math.MaxInt, -1, math.MinInt} {
				wantWhen(t, r, now, now) // none went
			}
			wantTake(t, r, at, api.OK)
			next := at + period
			for _, now := range []int{math.MinInt, -1, 0, at - 1, at, at + 1, next - 1, next} {
				wantWhen(t, r, now, next)
			}
			for _, now := range []int{next + 1, next + period, end + period + 1, math.MaxInt} {
				wantWhen(t, r, now, now)
			}
			wantCount(t, r, 1)
		}
	}
}

// P12.2: a frame at the tick 0 went, as those of other ticks did.
func TestAtZero(t *testing.T) {
	r := mustNew(t, 0)
	wantTake(t, r, 0, api.OK)
	wantWhen(t, r, 0, 12500)
	wantTake(t, r, 12499, api.ErrRate)
	r.Reset()
	wantWhen(t, r, 0, 0)
	wantTake(t, r, 0, api.OK)
	wantTake(t, r, 12499, api.ErrRate)
	wantCount(t, r, 2)
}

// P12.2: behind a Reset no frame went, but time goes back no further than ahead of it.
func TestReset(t *testing.T) {
	r := mustNew(t, 2)
	r.Reset()
	wantTake(t, r, 500, api.OK)
	for range 2 {
		r.Reset()
		wantCount(t, r, 1)
		for _, now := range []int{-7, 0, 400, 500, 501, end + 9} {
			wantWhen(t, r, now, now)
		}
		wantTake(t, r, -1, api.ErrArg)
		wantTake(t, r, end+1, api.ErrArg)
		wantTake(t, r, 0, api.ErrTime)
		wantTake(t, r, 499, api.ErrTime)
	}
	wantTake(t, r, 500, api.OK)
	wantTake(t, r, 500, api.ErrRate)
	wantWhen(t, r, 0, 50500)
	r.Reset()
	wantTake(t, r, 501, api.OK)
	wantTake(t, r, 50500, api.ErrRate)
	wantTake(t, r, 50501, api.OK)
	wantCount(t, r, 4)
}

// P12.3: edges of ticks, for each BAG.
func TestBound(t *testing.T) {
	for bag, period := range periods {
		for _, c := range []struct{ ticks, want int }{{0, 0}, {1, 1}, {2, 1}, {period - 1, 1}, {period, 1}, {period + 1, 2}, {2 * period, 2}, {2*period + 1, 3}, {1000*period - 1, 1000}, {1000 * period, 1000}, {1000*period + 1, 1001}} {
			wantBound(t, bag, c.ticks, c.want, api.OK)
		}
	}
	wantBound(t, 1, 25001, 2, api.OK) // the chapter's example
	wantBound(t, 0, end, 90071992548, api.OK)
	wantBound(t, 0, end-1, 90071992548, api.OK)
	wantBound(t, 7, end, 703687442, api.OK)
}

// P12.3, R1: what there is no bound for.
func TestNoBound(t *testing.T) {
	for bag := range periods {
		for _, ticks := range []int{-1, -2, -12500, end + 1, math.MaxInt, math.MinInt, math.MaxInt - 1} {
			wantBound(t, bag, ticks, 0, api.ErrArg)
		}
	}
	for _, bag := range noBags {
		for _, ticks := range []int{0, 1, end, -1, end + 1} {
			wantBound(t, bag, ticks, 0, api.ErrArg)
		}
	}
}
