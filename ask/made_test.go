package ask_test

import (
	"bytes"
	"strconv"
	"strings"
	"sync"
	"testing"

	"mortise/api"
	"mortise/ask"
	"mortise/eval"
)

// The packages q and r as a program has them: they write what is asked, and read the answers.
const (
	writes = "func w(x int) { put(x); put(x / 256); } "
	reads  = "func g() int { return get() * 1000003 - 5; } "
	realQ  = "package q; const C = 5; " + writes + reads + "func N() { put(78); } func H() int { put(72); return g(); } func G(x int) int { put(71); w(x); return g(); } func P(a int, b int) { put(80); w(a); w(b); }"
	realR  = "package r; const C = 6; " + writes + reads + "func G(a int, b int) int { put(82); w(a); w(b); return g(); }"
)

// answersOf are what reading that input answers, and behind it.
func answersOf(in []byte) []int64 {
	var answers []int64
	for _, b := range in {
		answers = append(answers, int64(b)*1000003-5)
	}
	for range 2000 {
		answers = append(answers, -1000003-5)
	}
	return answers
}

// mainOf is a package that asks, and writes what is answered.
func mainOf(asks []api.Ask) string {
	s := "package main; import p; " + writes + "func main() { "
	for i, a := range asks {
		var args []string
		for _, n := range a.Args {
			args = append(args, strconv.FormatInt(n, 10))
		}
		call := "p." + a.Name + "(" + strings.Join(args, ", ") + "); "
		if hasResult(a) {
			x := "x" + strconv.Itoa(i)
			s += x + " := " + call + "put(65); w(" + x + "); "
		} else {
			s += call + "put(66); "
		}
	}
	return s + "}"
}

func hasResult(a api.Ask) bool { return a.Name != "Do" && a.Name != "Bare" }

// written is what the real packages write for events, and how many steps they take for that.
func written(events []api.Event, asks []api.Ask) ([]byte, int) {
	var out []byte
	steps := stepsOf(asks)
	for _, e := range events {
		letter, takes := byte('B'), 3
		switch e.Name {
		case "q.N":
			letter, takes = 'N', 3
		case "q.H":
			letter, takes = 'H', 3+9
		case "q.G":
			letter, takes = 'G', 3+12+9
		case "q.P":
			letter, takes = 'P', 3+12+12
		case "r.G":
			letter, takes = 'R', 3+12+12+9
		}
		if e.Kind == api.EventAnswer {
			if hasResult(asks[0]) {
				letter, takes = 'A', 3+12
			}
			asks = asks[1:]
			takes += stepsOf(asks)
		}
		steps += takes
		out = append(out, letter)
		for _, n := range e.Args {
			out = append(out, byte(n), byte(n/256))
		}
	}
	return out[:min(len(out), api.MaxOut)], steps
}

// stepsOf are those of the statement that asks what is next, behind which the function's come.
func stepsOf(asks []api.Ask) int {
	if len(asks) == 0 {
		return 0
	}
	steps := 3
	for _, n := range asks[0].Args {
		steps++
		if n < 0 {
			steps++
		}
	}
	return steps
}

// made is a package with what it is asked, and what it does.
type made struct {
	text   string
	asks   []api.Ask
	in     []byte
	events []api.Event
}

// play is what comes with so much fuel, and whether it stopped.
func (p made) play(t *testing.T, fuel int) ([]api.Event, bool) {
	events, err := ask.Play(p.text, others(), p.asks, answersOf(p.in), fuel)
	if err != api.OK {
		t.Fatalf("%s: %d", p.text, err)
	}
	return events, len(events) > 0 && events[len(events)-1].Kind == api.EventStop
}

// steps are how many it makes: with less it stops. What it does till then is a beginning of what it does.
func (p made) steps(t *testing.T, most int) int {
	least := 0
	for least < most {
		middle := (least + most) / 2
		events, stopped := p.play(t, middle)
		if !stopped {
			most = middle
			continue
		}
		least = middle + 1
		if !strings.HasPrefix(told(p.events)+" ", strings.TrimSuffix(told(events), ".")) {
			t.Errorf("14.3: %s with %d: %s, with more %s", p.text, middle, told(events), told(p.events))
		}
	}
	return least
}

// begins tells whether the asks are reached.
func (p made) begins(t *testing.T, fuel int) bool {
	p.asks = nil
	events, stopped := p.play(t, fuel)
	return !stopped && (len(events) == 0 || events[len(events)-1].Kind != api.EventPanic)
}

// check holds what is done alone against what is done in a program; it tells how it ended.
func (p made) check(t *testing.T, fuel int) int {
	o, _, err := eval.Run([]string{p.text, realQ, realR, mainOf(p.asks)}, p.in, api.MaxFuel)
	if err != api.OK {
		t.Errorf("%s: %d", p.text, err)
		return 0
	}
	events, stopped := p.play(t, fuel)
	p.events = events
	end := api.Event{}
	if len(events) > 0 && (stopped || events[len(events)-1].Kind == api.EventPanic) {
		end, events = events[len(events)-1], events[:len(events)-1]
	}
	reached := p.asks
	if !p.begins(t, fuel) {
		reached = nil
	}
	out, more := written(events, reached)
	if stopped {
		if !bytes.HasPrefix(o.Out, out) {
			t.Errorf("14.1: %s\nwith %d: %s, but %q is written", p.text, fuel, told(p.events), o.Out)
		}
		return end.Kind
	}
	if !bytes.Equal(o.Out, out) || (o.Kind == api.RunPanic) != (end.Kind == api.EventPanic) || end.Kind == api.EventPanic && end.Args[0] != int64(o.Code) || end.Kind == 0 && o.Kind != api.RunDone {
		t.Errorf("14.1: %s\n%s, but in a program it ends by %d %d, and %q is written", p.text, told(p.events), o.Kind, o.Code, o.Out)
	}
	if steps := p.steps(t, fuel); steps+more != o.Steps {
		t.Errorf("14.1: %s\nit makes %d steps, with %d of the others; in a program %d", p.text, steps, more, o.Steps)
	}
	return end.Kind
}

// asks are some of what a made package can be asked.
func (m *maker) asks() []api.Ask {
	var asks []api.Ask
	for range m.upTo(8) {
		a := pick(m, api.Ask{Name: "Two", Args: []int64{0, 0}}, api.Ask{Name: "One", Args: []int64{0}}, api.Ask{Name: "None"}, api.Ask{Name: "Do", Args: []int64{0}}, api.Ask{Name: "Bare"})
		for i := range a.Args {
			a.Args[i] = int64(m.upTo(20) - 5)
		}
		asks = append(asks, a)
	}
	return asks
}

// 14.1, 14.3: made packages do alone what they do among packages that ask and answer so.
func TestMadePackages(t *testing.T) {
	var lock sync.Mutex
	ends, calls := map[int]int{}, 0
	var all sync.WaitGroup
	for first := range 8 {
		all.Go(func() {
			for round := first; round < 120; round += 8 {
				m := &maker{state: uint64(round)}
				p := made{text: "package p; " + m.pack(), asks: m.asks(), in: []byte(pick(m, "", "abc", "12345678901234567890"))}
				end := p.check(t, pick(m, 300, 4000, 4000))
				events, _ := p.play(t, 4000)
				lock.Lock()
				ends[end]++
				calls += strings.Count(told(events), "?")
				lock.Unlock()
			}
		})
	}
	all.Wait()
	if ends[0] < 40 || ends[api.EventPanic] < 10 || ends[api.EventStop] < 10 || calls < 2000 {
		t.Error("how they ended:", ends, "questions:", calls)
	}
}
