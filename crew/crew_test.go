package crew

import (
	"fmt"
	"math"
	"reflect"
	"runtime"
	"slices"
	"strings"
	"sync"
	"testing"
	"time"

	"seiche/api"
	"seiche/header"
)

// texts are so many files, each third one with a fault.
func texts(n int) []string {
	out := make([]string, n)
	for i := range out {
		out[i] = fmt.Sprintf("package p%d\nimport \"x%d\"\n%s", i, i, strings.Repeat("// c\n", (i*37)%50))
		if i%3 == 0 {
			out[i] = "package p\nimport 1"
		}
	}
	return out
}

// P24.1, P24.2: headers in the texts' order, however many workers there are.
func TestHeaders(t *testing.T) {
	got, e := Headers(2, "package a", "package b")
	if e != api.OK || len(got) != 2 || got[0].Name != "a" || got[1].Name != "b" {
		t.Errorf("%+v, %d", got, e)
	}
	for _, n := range []int{0, 1, 2, 15, 16, 17, 100, api.MaxFiles} {
		list := texts(n)
		copied := slices.Clone(list)
		for workers := 1; workers <= Limit; workers++ {
			headers, e := Headers(workers, list...)
			if e != api.OK || len(headers) != n {
				t.Fatalf("%d texts, %d workers: %d headers, error %d", n, workers, len(headers), e)
			}
			for i, h := range headers {
				if !reflect.DeepEqual(h, header.Parse(list[i])) {
					t.Fatalf("%d texts, %d workers: text %d: %+v", n, workers, i, h)
				}
			}
			places, e := Faults(workers, list...)
			if e != api.OK || len(places) != (n+2)/3 {
				t.Fatalf("%d texts, %d workers: %v, error %d", n, workers, places, e)
			}
			for i, place := range places {
				if place != 3*i {
					t.Fatalf("%d texts, %d workers: %v", n, workers, places)
				}
			}
		}
		if !slices.Equal(list, copied) {
			t.Fatal("the texts have changed")
		}
	}
}

// P24.1: errors, the workers' ahead of the texts'.
func TestErrors(t *testing.T) {
	many := make([]string, api.MaxFiles+1)
	for _, x := range []struct {
		workers int
		texts   []string
		e       api.Errno
	}{
		{0, nil, api.ErrArg}, {-1, nil, api.ErrArg}, {math.MinInt, nil, api.ErrArg}, {17, nil, api.ErrArg}, {math.MaxInt, many, api.ErrArg}, {0, many, api.ErrArg},
		{1, many, api.ErrLong}, {16, many, api.ErrLong}, {1, many[1:], api.OK}, {16, nil, api.OK},
	} {
		h, e1 := Headers(x.workers, x.texts...)
		p, e2 := Faults(x.workers, x.texts...)
		if e1 != x.e || e2 != x.e || x.e != api.OK && len(h)+len(p) != 0 {
			t.Errorf("%d workers, %d texts: errors %d, %d, want %d", x.workers, len(x.texts), e1, e2, x.e)
		}
	}
	if Limit != 16 {
		t.Error("the limit")
	}
}

// P24.1: none is at work behind the answer for long; calls at a time know nothing of one another.
func TestEnd(t *testing.T) {
	before := runtime.NumGoroutine()
	var all sync.WaitGroup
	for i := range 50 {
		all.Add(1)
		go func() {
			defer all.Done()
			list := texts(i)
			if h, e := Headers(1+i%Limit, list...); e != api.OK || len(h) != i || i > 1 && h[1].Name != "p1" {
				t.Errorf("%d headers, error %d", len(h), e)
			}
		}()
	}
	all.Wait()
	for range 200 {
		if runtime.NumGoroutine() <= before {
			return
		}
		time.Sleep(5 * time.Millisecond)
	}
	t.Errorf("%d at work, %d ahead", runtime.NumGoroutine(), before)
}
