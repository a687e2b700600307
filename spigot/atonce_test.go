package spigot

import (
	"math/rand"
	"slices"
	"strconv"
	"strings"
	"sync"
	"testing"
	"time"

	"spigot/api"
	"spigot/filter"
	"spigot/syntax"
	"spigot/text"
)

// The tests here have AtOnce in their names: .ci/run asks them once more with
// the race detector, where that can be had.

// atOnce does something at several places at once, and waits for all of them.
func atOnce(places int, do func(place int)) {
	var wait sync.WaitGroup
	gate := make(chan struct{})
	for i := range places {
		wait.Go(func() {
			<-gate
			do(i)
		})
	}
	close(gate)
	wait.Wait()
}

// expectEach asks that each number below count was given out to one place, once.
func expectEach(t *testing.T, what string, count int, places [][]int) {
	t.Helper()
	all := slices.Sorted(slices.Values(slices.Concat(places...)))
	for i := range count {
		if i >= len(all) || all[i] != i {
			t.Fatalf("%s: the numbers given out are %v", what, all)
		}
	}
	if len(all) != count {
		t.Errorf("%s: %d numbers, want %d", what, len(all), count)
	}
}

// TestCompileAtOnce: each filter has a number of its own, and stands there.
func TestCompileAtOnce(t *testing.T) {
	const places, each = 8, 150
	m := machineOf(t)
	numbers := make([][]int, places)
	var texts [api.MaxMany]string
	many := make([]int, places)
	atOnce(places, func(place int) {
		for i := range each {
			f := strconv.Itoa(place*each + i)
			switch n, e := m.Compile(f); {
			case e == api.OK:
				numbers[place] = append(numbers[place], n)
				texts[n] = f
			case e == api.ErrMany && n == 0:
				many[place]++
			default:
				t.Errorf("Compile(%s) = %d, %d", f, n, e)
			}
			expectCompile(t, m, "$x", 0, api.ErrName)
		}
	})
	expectEach(t, "filters", api.MaxMany, numbers)
	sum := 0
	for _, n := range many {
		sum += n
	}
	if sum != places*each-api.MaxMany {
		t.Errorf("%d times too many", sum)
	}
	for i, f := range texts {
		expectPull(t, m, begun(t, m, i, "null", 0), api.Full, f)
	}
}

// TestStartAtOnce: each stream has a number of its own, and its own input.
func TestStartAtOnce(t *testing.T) {
	const places, each = 8, 150
	m := machineOf(t, ".", "[.]")
	numbers := make([][]int, places)
	atOnce(places, func(place int) {
		for i := range each {
			input := strconv.Itoa(place*each + i)
			n, e := m.Start(i%2, input, 0)
			if e != api.OK {
				if e != api.ErrMany || n != 0 {
					t.Errorf("Start(%d, %s) = %d, %d", i%2, input, n, e)
				}
				continue
			}
			numbers[place] = append(numbers[place], n)
			if i%2 == 1 {
				input = "[" + input + "]"
			}
			expectPull(t, m, n, api.Full, input)
			expectPull(t, m, n, api.Done, "")
			expectStart(t, m, 2, "1", 0, 0, api.ErrNone)
			expectStart(t, m, 0, "[", 0, 0, api.ErrText)
		}
	})
	expectEach(t, "streams", api.MaxMany, numbers)
}

// TestPullAtOnce: each value of a stream comes to one place, in order, and its
// end to all of them.
func TestPullAtOnce(t *testing.T) {
	const places = 8
	for _, c := range []struct {
		filter string
		end    api.Answer
	}{
		{"foreach range(0; 5000) as $x (-1; . + 1; .)", api.Answer{Status: api.Done}},
		{"range(0; 5000), error(.)", api.Answer{Status: api.Failed, Text: "7"}},
		{"range(0; 5000), (def f: f; f)", api.Answer{Status: api.Deep}},
	} {
		m := machineOf(t, c.filter)
		s := begun(t, m, 0, "7", 50)
		numbers := make([][]int, places)
		atOnce(places, func(place int) {
			for {
				a, e := m.Pull(s)
				if e != api.OK || a.Status != api.Full && a != c.end {
					t.Errorf("Pull: %v, %d", a, e)
				}
				if a.Status != api.Full {
					break
				}
				n, err := strconv.Atoi(a.Text)
				if err != nil {
					t.Error(err)
				}
				numbers[place] = append(numbers[place], n)
			}
			expectPull(t, m, s, c.end.Status, c.end.Text)
		})
		expectEach(t, c.filter, 5000, numbers)
		for _, some := range numbers {
			if !slices.IsSorted(some) {
				t.Errorf("%s: a place has the values out of order", c.filter)
			}
		}
	}
}

// job is a filter, an input and what its stream gives.
type job struct {
	filter, input string
	depth         int
	want          []api.Answer
}

func jobs(count int) []job {
	mk := &maker{Rand: rand.New(rand.NewSource(11))}
	var all []job
	for len(all) < count {
		j := job{filter: mk.filter(1 + mk.Intn(14)), input: mk.value(mk.Intn(8)), depth: mk.Intn(6)}
		if tree, e, _ := syntax.Read(j.filter); e == api.OK {
			j.want = answers(modelRun(tree, j.input, j.depth))
			all = append(all, j)
		}
	}
	return all
}

// on compiles and starts a job on a machine, and pulls all that is known of it.
func (j job) on(t *testing.T, m *Machine) {
	t.Helper()
	f, e := m.Compile(j.filter)
	if e != api.OK {
		t.Errorf("Compile(%s) = %d, %d", j.filter, f, e)
		return
	}
	s, e := m.Start(f, j.input, j.depth)
	if e != api.OK {
		t.Errorf("Start(%s, %s, %d) = %d, %d", j.filter, j.input, j.depth, s, e)
		return
	}
	for _, a := range j.want {
		expectPull(t, m, s, a.Status, a.Text)
	}
}

// TestOneMachineAtOnce: streams that several places begin and pull on one
// machine don't mix.
func TestOneMachineAtOnce(t *testing.T) {
	const places, each = 8, 100
	all := jobs(places * each)
	m := machineOf(t)
	atOnce(places, func(place int) {
		for _, j := range all[place*each : (place+1)*each] {
			j.on(t, m)
			expectCompile(t, m, ". |", 0, api.ErrFilter)
			expectStart(t, m, -1, "1", 0, 0, api.ErrNone)
			expectNone(t, m, api.MaxMany)
		}
	})
}

// TestSeveralMachinesAtOnce: machines that are asked at once know nothing of
// one another, nor do the calls without a machine.
func TestSeveralMachinesAtOnce(t *testing.T) {
	all := jobs(60)
	atOnce(8, func(place int) {
		m := machineOf(t)
		other := machineOf(t, "range(0; 999)")
		s := begun(t, other, 0, "0", 0)
		for i, j := range all {
			j.on(t, m)
			expectPull(t, other, s, api.Full, strconv.Itoa(i))
			plain, e, _ := filter.Pretty(j.filter)
			if again, f, _ := filter.Pretty(plain); e != api.OK || again != plain && len(plain) <= api.MaxText {
				t.Errorf("Pretty(%s) = %s, %d; %s, %d", j.filter, plain, e, again, f)
			}
			if _, e, _ := text.Canon(j.input); e != api.OK {
				t.Errorf("Canon(%s): %d", j.input, e)
			}
		}
		expectCompile(t, m, ".", len(all), api.OK)
		expectStart(t, m, 0, "[", 0, 0, api.ErrText)
	})
}

func TestRunAtOnce(t *testing.T) {
	atOnce(20, func(int) {
		const f = "[.[] | try (if . > 1 then error else . end) catch -.], (label $l | .[], break $l)"
		if s := told(Run(f, "[1,2,3]", 9, 9)); s != "[1,-2,-3] 1 2 3." {
			t.Error(s)
		}
	})
}

// TestCallsHoldTheLockAtOnce: no call answers while another one has the lock,
// and none keeps it.
func TestCallsHoldTheLockAtOnce(t *testing.T) {
	m := machineOf(t, "1, 2, error")
	begun(t, m, 0, "null", 0)
	for _, c := range []struct {
		name string
		call func()
	}{
		{"Compile", func() { m.Compile(".") }},
		{"Compile of no filter", func() { m.Compile(". |") }},
		{"Compile of a long text", func() { m.Compile(strings.Repeat(" ", api.MaxText+1)) }},
		{"Start", func() { m.Start(0, "1", 0) }},
		{"Start of no filter", func() { m.Start(-1, "1", 0) }},
		{"Start on no text", func() { m.Start(0, "[", 0) }},
		{"Pull", func() { m.Pull(0) }},
		{"Pull of no stream", func() { m.Pull(-1) }},
		{"Pull of the last value", func() { m.Pull(0) }},
		{"Pull of the end", func() { m.Pull(0) }},
		{"Pull behind the end", func() { m.Pull(0) }},
	} {
		answered := make(chan struct{})
		m.lock.Lock()
		go func() {
			c.call()
			close(answered)
		}()
		select {
		case <-answered:
			t.Errorf("%s answers without the lock", c.name)
		case <-time.After(20 * time.Millisecond):
		}
		m.lock.Unlock()
		<-answered
		if !m.lock.TryLock() {
			t.Fatalf("%s keeps the lock", c.name)
		}
		m.lock.Unlock()
	}
}
