package handles_test

import (
	"testing"

	"paddock/api"
	"paddock/handles"
)

// checkOnce takes and frees in a long row by a fixed rule, till the pool gives nothing more or the steps are done, and holds each step to P4.2; it tells how many handles were taken.
func checkOnce(t *testing.T, p *handles.Pool, steps int) int {
	t.Helper()
	const lived, dead = 1, 2
	known := map[api.Handle]int{}
	var now []api.Handle
	for _, h := range p.List() {
		known[h] = lived
		now = append(now, h)
	}
	taken := 0
	for step := range steps {
		if step%5 < 2 || len(now) == 0 {
			h, err := p.Take()
			if err != nil && len(now) == 0 {
				break
			}
			if err == nil {
				if known[h] != 0 {
					t.Fatalf("step %d: %v is taken twice", step, h)
				}
				known[h], now, taken = lived, append(now, h), taken+1
			}
		} else if step%5 < 2+step/64%4 {
			i := (step * 31) % len(now)
			h := now[i]
			now = append(now[:i:i], now[i+1:]...)
			if err := p.Free(h); err != nil {
				t.Fatalf("step %d: Free(%v): %v", step, h, err)
			}
			known[h] = dead
		}
		if step%16 == 0 {
			for h, is := range known {
				if p.Lives(h) != (is == lived) {
					t.Fatalf("step %d: Lives(%v): %v", step, h, p.Lives(h))
				}
				if is == dead && p.Free(h) != api.ErrNone {
					t.Fatalf("step %d: %v is freed twice", step, h)
				}
			}
		}
		if got := p.Count(); got != len(now) {
			t.Fatalf("step %d: Count: %d; asked is %d", step, got, len(now))
		}
	}
	return taken
}

func TestNoHandleTwice(t *testing.T) {
	if n := checkOnce(t, handles.New(), 5000); n < 1000 {
		t.Errorf("only %d handles were taken", n)
	}
}

// TestNoHandleTwiceAtTheEnd: each place has three generations left when the pool is made; then it gives nothing more.
func TestNoHandleTwiceAtTheEnd(t *testing.T) {
	p := from(t, many(mostEntities, live(lastGen-3)), nil)
	if n := checkOnce(t, p, 5000); n != 3*mostEntities {
		t.Errorf("%d handles were taken", n)
	}
	if h, err := p.Take(); h != (api.Handle{}) || err != api.ErrFull || p.Count() != 0 {
		t.Errorf("Take: %v, %v; Count: %d", h, err, p.Count())
	}
	slots, free := p.Slots()
	if len(free) != 0 {
		t.Errorf("places are free: %v", free)
	}
	for i, s := range slots {
		if s != freed(lastGen) {
			t.Errorf("slot %d: %v", i, s)
		}
	}
}
