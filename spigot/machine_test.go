package spigot

import (
	"math"
	"strconv"
	"strings"
	"testing"

	"spigot/api"
	"spigot/filter"
	"spigot/text"
)

// machineOf makes a machine that has these filters, from 0 on.
func machineOf(t *testing.T, filters ...string) *Machine {
	t.Helper()
	m := New()
	if m == nil {
		t.Fatal("New() = nil")
	}
	for i, f := range filters {
		expectCompile(t, m, f, i, api.OK)
	}
	return m
}

func expectCompile(t *testing.T, m *Machine, f string, number int, e api.Errno) {
	t.Helper()
	if n, got := m.Compile(f); n != number || got != e {
		t.Errorf("Compile(%.60q) = %d, %d, want %d, %d", f, n, got, number, e)
	}
}

func expectStart(t *testing.T, m *Machine, f int, input string, depth, number int, e api.Errno) {
	t.Helper()
	if n, got := m.Start(f, input, depth); n != number || got != e {
		t.Errorf("Start(%d, %.60q, %d) = %d, %d, want %d, %d", f, input, depth, n, got, number, e)
	}
}

// begun starts a stream that there is room for.
func begun(t *testing.T, m *Machine, f int, input string, depth int) int {
	t.Helper()
	n, e := m.Start(f, input, depth)
	if e != api.OK {
		t.Fatalf("Start(%d, %.60q, %d) = %d, %d", f, input, depth, n, e)
	}
	return n
}

func expectPull(t *testing.T, m *Machine, stream int, status uint8, text string) {
	t.Helper()
	if a, e := m.Pull(stream); a != (api.Answer{Status: status, Text: text}) || e != api.OK {
		t.Errorf("Pull(%d) = %.200v, %d, want %d, %.200q", stream, a, e, status, text)
	}
}

func expectNone(t *testing.T, m *Machine, stream int) {
	t.Helper()
	if a, e := m.Pull(stream); a != (api.Answer{}) || e != api.ErrNone {
		t.Errorf("Pull(%d) = %v, %d, want none", stream, a, e)
	}
}

// strangers are numbers that nothing has, if so many were given out.
func strangers(count int) []int {
	return []int{math.MinInt, math.MinInt32, -1000, -2, -1, count, count + 1, count + 1000, api.MaxMany, math.MaxInt32, 1 << 32, math.MaxInt}
}

// noFilters are texts that are no filters, or have a name that is not known.
var noFilters = []struct {
	text string
	e    api.Errno
}{
	{"", api.ErrFilter}, {". |", api.ErrFilter}, {"1 1", api.ErrFilter}, {"@", api.ErrFilter}, {"\x00", api.ErrFilter}, {"1 == 2 == 3", api.ErrFilter}, {`"`, api.ErrFilter}, {`"\ud800"`, api.ErrFilter}, {"\"\xff\"", api.ErrFilter}, {"a1234567890123456789b", api.ErrFilter}, {"1234567890123456789", api.ErrFilter}, {"[", api.ErrFilter}, {strings.Repeat("[", 2000), api.ErrFilter}, {strings.Repeat(" ", 2000) + ".", api.ErrFilter},
	{"$x", api.ErrName}, {"break $l", api.ErrName}, {"nobody", api.ErrName}, {"length(1)", api.ErrName}, {"first", api.ErrName}, {"def f: 1; f(2)", api.ErrName}, {"1 as $x | $y", api.ErrName}, {"$x as $x | 1", api.ErrName}, {"label $l | $l", api.ErrName},
	// Of two errors the one that is named first.
	{"$x |", api.ErrFilter}, {"$x, nobody | ]", api.ErrFilter}, {"$x" + strings.Repeat(" ", 2000), api.ErrFilter},
}

// noTexts are texts of no value.
var noTexts = []string{"", " ", "[", "]", "[1,]", "01", "-", "nul", "1 2", "1.5", "1e3", "9223372036854775808", "-9223372036854775809", `"`, `"\ud800x"`, "\"\xff\"", "\"\n\"", `{"a"}`, "{1:2}", strings.Repeat("[", 65) + strings.Repeat("]", 65), "\x00", "."}

func TestCompileTellsNumbers(t *testing.T) {
	m := machineOf(t)
	for i, f := range []string{".", ".", " . ", "1, error", "def f: f; f", "empty", strings.Repeat(" ", 1999) + ".", "[range(0; 999999999999999999)]", "$x | error"} {
		if i == 8 {
			expectCompile(t, m, f, 0, api.ErrName)
			continue
		}
		expectCompile(t, m, f, i, api.OK)
	}
	expectCompile(t, m, ".", 8, api.OK)
}

func TestCompileTellsWhatIsWrong(t *testing.T) {
	m := machineOf(t)
	for i, c := range noFilters {
		expectCompile(t, m, c.text, 0, c.e)
		if _, e, _ := filter.Pretty(c.text); e != c.e {
			t.Errorf("Pretty(%.60q) = %d", c.text, e)
		}
		// No number was given out.
		expectCompile(t, m, ".", i, api.OK)
	}
}

func TestStartTellsNumbers(t *testing.T) {
	m := machineOf(t, ".", "error", "def f: f; f", "[range(0; 999999999999999999)]", never)
	number := 0
	for _, f := range []int{0, 0, 4, 3, 2, 1, 0, 4} {
		for _, input := range []string{"0", " [1, 2] ", `{"a":null}`, strings.Repeat("[", 64) + strings.Repeat("]", 64)} {
			for _, depth := range []int{math.MinInt, -1, 0, 1, 50, 51, math.MaxInt} {
				expectStart(t, m, f, input, depth, number, api.OK)
				number++
			}
		}
	}
}

func TestStartTellsWhatIsWrong(t *testing.T) {
	m := machineOf(t)
	for _, f := range append(strangers(0), 0) {
		for _, input := range append(noTexts, "1") {
			expectStart(t, m, f, input, 50, 0, api.ErrNone)
		}
	}
	m = machineOf(t, "1", "2", "3")
	number := 0
	for _, s := range noTexts {
		if _, e, _ := text.Canon(s); e != api.ErrText {
			t.Errorf("Canon(%.60q) = %d", s, e)
		}
		for f := range 3 {
			for _, depth := range []int{-1, 0, 50} {
				expectStart(t, m, f, s, depth, 0, api.ErrText)
			}
		}
		for _, f := range strangers(3) {
			expectStart(t, m, f, s, 50, 0, api.ErrNone)
			expectStart(t, m, f, "1", 50, 0, api.ErrNone)
		}
		// No number was given out.
		expectStart(t, m, number%3, "1", 50, number, api.OK)
		number++
	}
}

func TestPullTellsWhatIsWrong(t *testing.T) {
	m := machineOf(t, ".[]", "error")
	for _, s := range append(strangers(0), 0, 1) {
		expectNone(t, m, s)
	}
	for count := 1; count < 4; count++ {
		begun(t, m, 0, "[1]", 0)
		for _, s := range strangers(count) {
			expectNone(t, m, s)
		}
	}
	for s := range 3 {
		expectPull(t, m, s, api.Full, "1")
		expectPull(t, m, s, api.Done, "")
	}
	for _, s := range strangers(3) {
		expectNone(t, m, s)
	}
}

func TestFiltersUpToTheLast(t *testing.T) {
	m := machineOf(t)
	for i := range api.MaxMany {
		expectCompile(t, m, "nobody", 0, api.ErrName)
		expectCompile(t, m, strconv.Itoa(i)+", .", i, api.OK)
	}
	for range 2 {
		expectCompile(t, m, ".", 0, api.ErrMany)
		for _, c := range noFilters {
			expectCompile(t, m, c.text, 0, c.e)
		}
	}
	// What is there goes on answering.
	for i, f := range []int{0, 1, 500, 998, 999} {
		expectStart(t, m, f, `"a"`, 0, i, api.OK)
		expectPull(t, m, i, api.Full, strconv.Itoa(f))
	}
	expectStart(t, m, 1000, `"a"`, 0, 0, api.ErrNone)
	expectStart(t, m, 999, "[", 0, 0, api.ErrText)
	for i := range 5 {
		expectPull(t, m, i, api.Full, `"a"`)
		expectPull(t, m, i, api.Done, "")
	}
	// Another machine has room.
	expectCompile(t, machineOf(t, "1"), ".", 1, api.OK)
}

func TestStreamsUpToTheLast(t *testing.T) {
	m := machineOf(t, "., 1", "error")
	for i := range api.MaxMany {
		expectStart(t, m, 0, "[", 0, 0, api.ErrText)
		expectStart(t, m, 2, "1", 0, 0, api.ErrNone)
		expectStart(t, m, i%2, strconv.Itoa(i), 0, i, api.OK)
	}
	for range 2 {
		expectStart(t, m, 0, "1", 0, 0, api.ErrMany)
		expectStart(t, m, 1, "1", 50, 0, api.ErrMany)
		for _, s := range noTexts {
			expectStart(t, m, 0, s, 0, 0, api.ErrText)
			expectStart(t, m, 2, s, 0, 0, api.ErrNone)
		}
		for _, f := range strangers(2) {
			expectStart(t, m, f, "1", 0, 0, api.ErrNone)
		}
	}
	// What is there goes on answering, a filter more among it; a stream that
	// has ended makes no room.
	for i := range api.MaxMany {
		if i%2 == 0 {
			expectPull(t, m, i, api.Full, strconv.Itoa(i))
			expectPull(t, m, i, api.Full, "1")
			expectPull(t, m, i, api.Done, "")
		} else {
			expectPull(t, m, i, api.Failed, strconv.Itoa(i))
		}
	}
	expectNone(t, m, api.MaxMany)
	expectCompile(t, m, "2", 2, api.OK)
	expectStart(t, m, 2, "1", 0, 0, api.ErrMany)
	expectStart(t, machineOf(t, "1"), 0, "1", 0, 0, api.OK)
}

// TestErrorsChangeNothing: all calls that go wrong, between those that don't.
func TestErrorsChangeNothing(t *testing.T) {
	m := machineOf(t)
	filters, streams := 0, 0
	wrong := func() {
		t.Helper()
		for _, c := range noFilters {
			expectCompile(t, m, c.text, 0, c.e)
		}
		for _, f := range strangers(filters) {
			expectStart(t, m, f, "1", 50, 0, api.ErrNone)
		}
		for f := range filters {
			expectStart(t, m, f, "[1,", 50, 0, api.ErrText)
		}
		for _, s := range strangers(streams) {
			expectNone(t, m, s)
		}
	}
	wrong()
	for _, f := range []string{"1, 2", "., error", "., (def f: f; f)"} {
		expectCompile(t, m, f, filters, api.OK)
		filters++
		wrong()
	}
	for f := range 3 {
		expectStart(t, m, f, "1", 50, streams, api.OK)
		streams++
		wrong()
	}
	for s := range 3 {
		expectPull(t, m, s, api.Full, "1")
		wrong()
	}
	expectPull(t, m, 0, api.Full, "2")
	for range 2 {
		wrong()
		expectPull(t, m, 0, api.Done, "")
		expectPull(t, m, 1, api.Failed, "1")
		expectPull(t, m, 2, api.Deep, "")
	}
}

// TestMachinesKnowNothingOfOneAnother: what one is asked, no other one answers
// by.
func TestMachinesKnowNothingOfOneAnother(t *testing.T) {
	first, second, third := machineOf(t, "1, 2", "3"), machineOf(t), machineOf(t, ".[]")
	expectStart(t, first, 1, "0", 0, 0, api.OK)
	expectStart(t, second, 0, "0", 0, 0, api.ErrNone)
	expectStart(t, third, 1, "0", 0, 0, api.ErrNone)
	expectStart(t, first, 0, "0", 0, 1, api.OK)
	expectStart(t, third, 0, "[7,8]", 0, 0, api.OK)
	expectNone(t, second, 0)
	expectNone(t, third, 1)
	expectPull(t, first, 1, api.Full, "1")
	expectPull(t, third, 0, api.Full, "7")
	expectCompile(t, second, "9", 0, api.OK)
	expectStart(t, second, 0, "0", 0, 0, api.OK)
	expectPull(t, first, 0, api.Full, "3")
	expectPull(t, second, 0, api.Full, "9")
	expectPull(t, third, 0, api.Full, "8")
	expectPull(t, third, 0, api.Done, "")
	expectPull(t, first, 1, api.Full, "2")
	expectPull(t, first, 0, api.Done, "")
	expectPull(t, second, 0, api.Done, "")
	expectCompile(t, first, ".", 2, api.OK)
	expectCompile(t, third, ".", 1, api.OK)
	expectCompile(t, second, ".", 1, api.OK)
}
