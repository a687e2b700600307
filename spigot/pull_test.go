package spigot

import (
	"math"
	"math/rand"
	"strconv"
	"testing"

	"spigot/api"
	"spigot/syntax"
)

// pulled is what a stream of a new machine gives, told as a result is: at most
// n values, and how it ends, if that comes first. An end must come again.
func pulled(t *testing.T, f, input string, n, depth int) string {
	t.Helper()
	m := New()
	number, e := m.Compile(f)
	if e != api.OK {
		return told(api.Result{Status: api.BadFilter})
	}
	stream, e := m.Start(number, input, depth)
	if e != api.OK {
		return told(api.Result{Status: api.BadInput})
	}
	r := api.Result{Status: api.Full}
	for len(r.Outputs) < n {
		a, e := m.Pull(stream)
		if e != api.OK {
			t.Errorf("%.200q: Pull(%d) = %v, %d", f, stream, a, e)
		}
		if a.Status == api.Full {
			r.Outputs = append(r.Outputs, a.Text)
			continue
		}
		for range 2 {
			expectPull(t, m, stream, a.Status, a.Text)
		}
		r.Status, r.Error = a.Status, a.Text
		break
	}
	return told(r)
}

// expectSteps asks for the answers that a stream gives, one pull after the
// other; the last one must come again and again.
func expectSteps(t *testing.T, f, input string, depth int, steps ...api.Answer) {
	t.Helper()
	m := machineOf(t, f)
	s := begun(t, m, 0, input, depth)
	for _, a := range steps {
		expectPull(t, m, s, a.Status, a.Text)
	}
	last := steps[len(steps)-1]
	for range 5 {
		expectPull(t, m, s, last.Status, last.Text)
	}
}

func full(text string) api.Answer { return api.Answer{Status: api.Full, Text: text} }

func TestPullTellsValuesAndThenTheEnd(t *testing.T) {
	done, deep := api.Answer{Status: api.Done}, api.Answer{Status: api.Deep}
	failed := func(text string) api.Answer { return api.Answer{Status: api.Failed, Text: text} }
	const input = ` { "b" : [ 1 ] , "a" : "\u00e9" } `
	for _, c := range []struct {
		filter string
		steps  []api.Answer
	}{
		{"empty", []api.Answer{done}},
		{"1", []api.Answer{full("1"), done}},
		{"null, false, \"\", [], {}", []api.Answer{full("null"), full("false"), full(`""`), full("[]"), full("{}"), done}},
		{".", []api.Answer{full(`{"a":"é","b":[1]}`), done}},
		{"error", []api.Answer{failed(`{"a":"é","b":[1]}`)}},
		{"error(null)", []api.Answer{failed("null")}},
		{`error("")`, []api.Answer{failed(`""`)}},
		{".b, error(.a), 2", []api.Answer{full("[1]"), failed(`"é"`)}},
		{"error(1, 2)", []api.Answer{failed("1")}},
		{"1, 1 / 0, 2", []api.Answer{full("1"), failed(`"zero"`)}},
		{"-7 | ., length, (999999999999999999 * 10), 1", []api.Answer{full("-7"), full("7"), failed(`"overflow"`)}},
		{".b[], .b[0][]", []api.Answer{full("1"), failed(`"type"`)}},
		{"path(.a), path(1)", []api.Answer{full(`["a"]`), failed(`"path"`)}},
		{".a | fromjson", []api.Answer{failed(`"text"`)}},
		{"def f: f; f", []api.Answer{deep}},
		{"1, (def f: f; f), 2", []api.Answer{full("1"), deep}},
		{"(def f: f; f)?, 1", []api.Answer{deep}},
		{"label $l | 1, break $l, 2", []api.Answer{full("1"), done}},
		{"(1, error(5), 2)?", []api.Answer{full("1"), done}},
		{"try (1, error(5), 2) catch (., 6)", []api.Answer{full("1"), full("5"), full("6"), done}},
		{"(null, 1, error, 2) // 3", []api.Answer{full("1"), done}},
		{"limit(2; 1, 2, error)", []api.Answer{full("1"), full("2"), done}},
		{"first(1, error), error(8)", []api.Answer{full("1"), failed("8")}},
	} {
		expectSteps(t, c.filter, input, 50, c.steps...)
	}
}

// TestEveryEndComesAgain: each way to come to an end, whatever it was that
// ended.
func TestEveryEndComesAgain(t *testing.T) {
	for _, f := range []string{
		".", "..", ".a", ".[0]", ".[]", ".[]?", "1", "1 as $x | $x", "[1, 2]", "{a: (1, 2)}", "1, 2", "1 | 2", "(1, 2) as $x | $x", "null // 2", "1 or 2", "1 + 2", "- 1", "1 == 2", "if (true, false) then 1 else 2 end", "reduce (1, 2) as $x (0; . + $x)", "foreach (1, 2) as $x (0; . + $x; .)", "label $l | 1, break $l", "try error(1) catch (., 2)", "def f: 1, 2; f", "def f(g): g, g; f(1, 2)",
		"empty", "error", "error(1, 2)", "error(empty)", "not", "has(0)", "range(0; 3)", "range(3; 0)", "first(1, 2)", "first(empty)", "limit(2; 1, 2, 3)", "limit(0; 1)", "limit(5; 1, 2)", "path(..)", "path(.a, .b)", "getpath([])", "setpath([]; 1, 2)", "delpath([], [])", ".a = (1, 2)", ".a |= 1", "recurse(. + 1)", "recurse(empty)", "1, (2, (3, error))", "(1, 2) | (., error)", "[(1, error)?, 2]", "(1, error) // 2", "path((.a, error)?)",
	} {
		for _, input := range []string{"null", "[5,6]", `{"a":1}`, "7"} {
			m := machineOf(t, f)
			s := begun(t, m, 0, input, 3)
			var a api.Answer
			for a, _ = m.Pull(s); a.Status == api.Full; {
				a, _ = m.Pull(s)
			}
			for range 10 {
				expectPull(t, m, s, a.Status, a.Text)
			}
		}
	}
}

func TestDepthsOfStreams(t *testing.T) {
	const down = "def down: if . == 1 then 7 else . - 1 | down end; down"
	m := machineOf(t, down, "recurse(. + 1)", "def f: 1; 0, f")
	for _, c := range []struct {
		filter int
		input  string
		depth  int
		want   []string
	}{
		{0, "1", math.MinInt, []string{"~"}}, {0, "1", -1, []string{"~"}}, {0, "1", 0, []string{"~"}}, {0, "1", 1, []string{"7", "."}}, {0, "2", 1, []string{"~"}},
		{0, "50", 49, []string{"~"}}, {0, "50", 50, []string{"7", "."}}, {0, "50", 51, []string{"7", "."}}, {0, "51", 50, []string{"~"}}, {0, "51", 51, []string{"~"}}, {0, "51", 1000, []string{"~"}}, {0, "51", math.MaxInt, []string{"~"}}, {0, "50", math.MaxInt, []string{"7", "."}},
		{1, "0", -1, []string{"~"}}, {1, "0", 0, []string{"~"}}, {1, "0", 1, []string{"0", "~"}}, {1, "5", 3, []string{"5", "6", "7", "~"}},
		{2, "0", math.MinInt, []string{"0", "~"}}, {2, "0", 0, []string{"0", "~"}}, {2, "0", 1, []string{"0", "1", "."}},
	} {
		s := begun(t, m, c.filter, c.input, c.depth)
		for _, want := range append(c.want, c.want[len(c.want)-1]) {
			switch want {
			case "~":
				expectPull(t, m, s, api.Deep, "")
			case ".":
				expectPull(t, m, s, api.Done, "")
			default:
				expectPull(t, m, s, api.Full, want)
			}
		}
	}
	for _, depth := range []int{50, 51, math.MaxInt} {
		s := begun(t, m, 1, "0", depth)
		for i := range 50 {
			expectPull(t, m, s, api.Full, strconv.Itoa(i))
		}
		expectPull(t, m, s, api.Deep, "")
	}
}

// TestPullsWorkOutNoMore: each of the values comes without what stands behind
// it, which comes only when it is asked for.
func TestPullsWorkOutNoMore(t *testing.T) {
	for _, b := range behinds {
		m := machineOf(t, replaceMark("#", b), replaceMark("1, #", b), replaceMark("1, 2, 3, #", b), replaceMark("foreach (1, 2, #) as $x (0; . + $x; .)", b), replaceMark("(1, 2) | (., #)", b))
		// What is begun, but never asked, matters to nobody.
		idle := begun(t, m, 0, "0", 50)
		one := begun(t, m, 1, "0", 50)
		expectPull(t, m, one, api.Full, "1")
		three := begun(t, m, 2, "0", 50)
		each := begun(t, m, 3, "0", 50)
		expectPull(t, m, each, api.Full, "1")
		expectPull(t, m, three, api.Full, "1")
		piped := begun(t, m, 4, "0", 50)
		expectPull(t, m, piped, api.Full, "1")
		expectPull(t, m, three, api.Full, "2")
		expectPull(t, m, each, api.Full, "3")
		expectPull(t, m, three, api.Full, "3")
		if idle != 0 || piped != 4 {
			t.Error(idle, piped)
		}
	}
	expectSteps(t, "1, error(2), 3", "0", 0, full("1"), api.Answer{Status: api.Failed, Text: "2"})
	expectSteps(t, "1, (def d: d; d), 3", "0", 50, full("1"), api.Answer{Status: api.Deep})
	m := machineOf(t, "range(0; 999999999999999999)", "range(0; 999999999999999999) | select(. % 1000 == 999)")
	numbers, some := begun(t, m, 0, "0", 0), begun(t, m, 1, "0", 1)
	for i := range 20000 {
		expectPull(t, m, numbers, api.Full, strconv.Itoa(i))
		if i%1000 == 999 {
			expectPull(t, m, some, api.Full, strconv.Itoa(i))
		}
	}
}

// TestStreamsByTurns: streams of one filter and of several ones, begun between
// one another's pulls.
func TestStreamsByTurns(t *testing.T) {
	m := machineOf(t, "foreach .[] as $x (0; . + $x; [$x, .])", "[.[0], (.[1] = 9), .]", "., error")
	a := begun(t, m, 0, "[1,2,3]", 0)
	expectPull(t, m, a, api.Full, "[1,1]")
	b := begun(t, m, 0, "[10,20]", 0)
	expectPull(t, m, a, api.Full, "[2,3]")
	expectPull(t, m, b, api.Full, "[10,10]")
	c := begun(t, m, 1, "[1,2,3]", 0)
	d := begun(t, m, 2, "[1,2,3]", 0)
	expectPull(t, m, d, api.Full, "[1,2,3]")
	expectPull(t, m, c, api.Full, "[1,[1,9,3],[1,2,3]]")
	expectPull(t, m, d, api.Failed, "[1,2,3]")
	e := begun(t, m, 0, "[1,2,3]", 0)
	expectPull(t, m, e, api.Full, "[1,1]")
	expectPull(t, m, b, api.Full, "[20,30]")
	expectPull(t, m, b, api.Done, "")
	expectPull(t, m, a, api.Full, "[3,6]")
	expectPull(t, m, e, api.Full, "[2,3]")
	expectPull(t, m, c, api.Done, "")
	expectPull(t, m, d, api.Failed, "[1,2,3]")
	expectCompile(t, m, ".", 3, api.OK)
	expectPull(t, m, a, api.Done, "")
	expectPull(t, m, e, api.Full, "[3,6]")
	expectPull(t, m, b, api.Done, "")
	expectPull(t, m, e, api.Done, "")
}

// TestSharedValuesStay: what a stream has given, bound or handed over stays as
// it is, whatever is made of it later.
func TestSharedValuesStay(t *testing.T) {
	const input = `{"a":[3,1,2],"o":{"x":1,"z":[5]}}`
	changes := []string{
		".a[0] = 9", ".a[5] = 9", ".o.y = 9", ".o.z[0] |= . + 1", ".[] |= null", ".. |= .", "delpath([\"a\", 0])", "delpath([\"o\", \"x\"])", "delpath([])", "setpath([\"o\", \"z\", 3]; 1, 2)", ".a + [1], .a + [2]", ".o + {y: 1}, .o + {a: 2}", ".a - [1]", ".a | sort", ".a | reverse", ".a | map(. + 1)", "[.a[], 1], [.a[], 2]", "{a: .a, b: 1}", "reduce .a[] as $x (.; .a = .a + [$x])", "foreach .a[] as $x (.; .o.z = .o.z + [$x]; .)", ".a |= sort", ".o |= . + {q: 1}", "[..] | reverse", ".a | add",
	}
	for _, change := range changes {
		m := machineOf(t, ". as $v | range(0; 3) | ($v | ["+change+"]), $v", "., .")
		changed, same := begun(t, m, 0, input, 1), begun(t, m, 1, input, 1)
		expectPull(t, m, same, api.Full, input)
		first, _ := m.Pull(changed)
		if first.Status != api.Full {
			t.Errorf("%s: %v", change, first)
		}
		for range 2 {
			expectPull(t, m, changed, api.Full, input)
			expectPull(t, m, changed, api.Full, first.Text)
		}
		expectPull(t, m, changed, api.Full, input)
		expectPull(t, m, changed, api.Done, "")
		expectPull(t, m, same, api.Full, input)
	}
}

// begunStream is a stream of which the model tells what it must give.
type begunStream struct {
	machine *Machine
	number  int
	told    string
	want    []api.Answer
}

// answers are what pulls must tell. Where the model is tired nobody knows how
// the stream goes on.
func answers(want list) []api.Answer {
	var all []api.Answer
	for _, x := range want.items {
		all = append(all, full(write(x.value)))
	}
	switch want.end.kind {
	case "":
		return append(all, api.Answer{Status: api.Done})
	case "error":
		return append(all, api.Answer{Status: api.Failed, Text: write(want.end.value)})
	case "deep":
		return append(all, api.Answer{Status: api.Deep})
	default:
		return all
	}
}

// TestMadeStreamsByTurns: filters are taken in, streams begun and pulled on
// several machines in any order, and each stream goes its own way.
func TestMadeStreamsByTurns(t *testing.T) {
	mk := &maker{Rand: rand.New(rand.NewSource(7))}
	ended := 0
	for range 60 {
		machines := []*Machine{New(), New(), New()}
		filters := make([][]string, len(machines))
		counts := make([]int, len(machines))
		var streams []*begunStream
		for range 300 {
			i := mk.Intn(len(machines))
			switch n := mk.Intn(10); {
			case n == 0 || len(filters[i]) == 0:
				f := mk.filter(1 + mk.Intn(14))
				if len(f) > api.MaxText {
					continue
				}
				expectCompile(t, machines[i], f, len(filters[i]), api.OK)
				filters[i] = append(filters[i], f)
			case n < 3:
				number, input, depth := mk.Intn(len(filters[i])), mk.value(mk.Intn(8)), mk.Intn(6)
				f := filters[i][number]
				expectStart(t, machines[i], number, input, depth, counts[i], api.OK)
				tree, _, _ := syntax.Read(f)
				streams = append(streams, &begunStream{machines[i], counts[i], f + " on " + input, answers(modelRun(tree, input, depth))})
				counts[i]++
			case len(streams) > 0:
				if streams[mk.Intn(len(streams))].hasEnded(t) {
					ended++
				}
			}
		}
	}
	if ended < 1000 {
		t.Errorf("only %d streams were asked behind their ends", ended)
	}
}

// hasEnded asks a stream once.
func (s *begunStream) hasEnded(t *testing.T) bool {
	t.Helper()
	if len(s.want) == 0 {
		return false
	}
	want := s.want[0]
	if a, e := s.machine.Pull(s.number); a != want || e != api.OK {
		t.Errorf("%s: %v, %d, want %v", s.told, a, e, want)
	}
	if want.Status != api.Full {
		return true
	}
	s.want = s.want[1:]
	return false
}
