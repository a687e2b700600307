package spigot

import (
	"math"
	"reflect"
	"runtime/debug"
	"strconv"
	"strings"
	"testing"

	"spigot/api"
	"spigot/filter"
	"spigot/text"
)

// told is a result as one text: the values with blanks between, and how the
// stream ends: . done, ! and the error, ~ too deep, nothing if it is full.
func told(r api.Result) string {
	s := strings.Join(r.Outputs, " ")
	switch r.Status {
	case api.Full:
		return s
	case api.Done:
		return s + "."
	case api.Failed:
		return s + "!" + r.Error
	case api.Deep:
		return s + "~"
	default:
		return "no filter or no input"
	}
}

// sample is a filter, an input and what comes of them.
type sample [3]string

func expectAll(t *testing.T, samples []sample) {
	t.Helper()
	for _, s := range samples {
		expect(t, s[0], s[1], 100, api.MaxDepth, s[2])
	}
}

// expect asks for what a filter gives, for the same from its plain form, and
// for the same value by value from a machine.
func expect(t *testing.T, f, input string, n, depth int, want string) {
	t.Helper()
	if got := told(Run(f, input, n, depth)); got != want {
		t.Errorf("Run(%.200q, %.80q, %d, %d): %s, want %s", f, input, n, depth, got, want)
	}
	if got := pulled(t, f, input, n, depth); got != want {
		t.Errorf("pulled of %.200q, %.80q, %d, %d: %s, want %s", f, input, n, depth, got, want)
	}
	plain, e, _ := filter.Pretty(f)
	if e != api.OK || len(plain) > api.MaxText {
		return
	}
	if got := told(Run(plain, input, n, depth)); got != want {
		t.Errorf("Run(%.200q, %.80q, %d, %d): %s, want %s", plain, input, n, depth, got, want)
	}
}

func TestExamples(t *testing.T) {
	expectAll(t, []sample{
		{".[] | . + 1", "[1,2]", "2 3."},
		{`1, error("x"), 2`, "null", `1!"x"`},
		{"[recurse(. + 1)]", "0", "~"},
		{"def f: f; f", "0", "~"},
		{".a.b |= . + 1", `{"a":{"b":1}}`, `{"a":{"b":2}}.`},
		{"[path(..)]", `{"a":[5]}`, `[[],["a"],["a",0]].`},
		{"path(1)", "0", `!"path"`},
		{".[2] = 1", "null", "[null,null,1]."},
		{"reduce .[] as $x (0; . + $x)", "[1,2,3]", "6."},
		{"foreach .[] as $x (0; . + $x; [$x, .])", "[1,2,3]", "[1,1] [2,3] [3,6]."},
		{"label $out | 1, break $out, 2", "0", "1."},
		{"(null, 1, false, 2) // 3", "0", "1 2."},
		{"error // 3", "0", "3."},
	})
	expect(t, "first(1, error)", "0", 1, 50, "1")
	expect(t, "first(1, error)", "0", 2, 50, "1.")
	expect(t, "limit(3; recurse(. + 1))", "0", 9, 5, "0 1 2.")
}

func TestHowMany(t *testing.T) {
	for _, c := range []struct {
		n    int
		want api.Result
	}{
		{math.MinInt, api.Result{Status: api.Full}},
		{-1, api.Result{Status: api.Full}},
		{0, api.Result{Status: api.Full}},
		{1, api.Result{Status: api.Full, Outputs: []string{"1"}}},
		{2, api.Result{Status: api.Full, Outputs: []string{"1", "2"}}},
		{3, api.Result{Status: api.Full, Outputs: []string{"1", "2", "3"}}},
		{4, api.Result{Status: api.Done, Outputs: []string{"1", "2", "3"}}},
		{math.MaxInt, api.Result{Status: api.Done, Outputs: []string{"1", "2", "3"}}},
	} {
		if got := Run(".[]", "[1,2,3]", c.n, 0); !reflect.DeepEqual(got, c.want) {
			t.Errorf("n %d: %+v, want %+v", c.n, got, c.want)
		}
	}
}

func TestHowStreamsEnd(t *testing.T) {
	for _, c := range []struct {
		filter string
		n      int
		want   api.Result
	}{
		{"empty", 5, api.Result{}},
		{"empty", 0, api.Result{Status: api.Full}},
		{"1, 2", 5, api.Result{Outputs: []string{"1", "2"}}},
		{"error", 5, api.Result{Status: api.Failed, Error: `{"a":"é","b":[1]}`}},
		{"error", 0, api.Result{Status: api.Full}},
		{"1, .b, error(.a), 2", 5, api.Result{Status: api.Failed, Outputs: []string{"1", "[1]"}, Error: `"é"`}},
		{"1, .b, error(.a), 2", 3, api.Result{Status: api.Failed, Outputs: []string{"1", "[1]"}, Error: `"é"`}},
		{"1, .b, error(.a), 2", 2, api.Result{Status: api.Full, Outputs: []string{"1", "[1]"}}},
		{"error(null)", 5, api.Result{Status: api.Failed, Error: "null"}},
		{`error("")`, 5, api.Result{Status: api.Failed, Error: `""`}},
		{"1, (def f: f; f), 2", 5, api.Result{Status: api.Deep, Outputs: []string{"1"}}},
		{"1, (def f: f; f), 2", 1, api.Result{Status: api.Full, Outputs: []string{"1"}}},
		{"def f: f; f", 5, api.Result{Status: api.Deep}},
		{"def f: f; f", 0, api.Result{Status: api.Full}},
	} {
		if got := Run(c.filter, ` { "b" : [ 1 ] , "a" : "\u00e9" } `, c.n, 50); !reflect.DeepEqual(got, c.want) {
			t.Errorf("%s, n %d: %+v, want %+v", c.filter, c.n, got, c.want)
		}
	}
}

func TestWhatIsWrong(t *testing.T) {
	long := strings.Repeat(" ", api.MaxText) + "."
	for _, c := range []struct {
		filter, input string
		status        uint8
		at            int
	}{
		{"", "0", api.BadFilter, 0},
		{". |", "0", api.BadFilter, 3},
		{"1 1", "0", api.BadFilter, 2},
		{long, "0", api.BadFilter, 0},
		{"1, $x", "0", api.BadFilter, 3},
		{"label $l | break $m", "0", api.BadFilter, 17},
		{"nobody", "0", api.BadFilter, 0},
		{".[length(1)]", "0", api.BadFilter, 2},
		{"def f(x): 1; f", "0", api.BadFilter, 13},
		{"empty | $x", "0", api.BadFilter, 8},
		{".", "", api.BadInput, 0},
		{".", "[1,]", api.BadInput, 3},
		{".", "01", api.BadInput, 1},
		{".", "9223372036854775808", api.BadInput, 0},
		{".", `["\ud800x"]`, api.BadInput, 2},
		{".", "\"\xff\"", api.BadInput, 1},
		{".", strings.Repeat("[", 65), api.BadInput, 64},
		{"1", "[", api.BadInput, 1},
		{"error", "[", api.BadInput, 1},
		// Both: the filter counts.
		{". |", "[1,]", api.BadFilter, 3},
		{"$x", "[1,]", api.BadFilter, 0},
		{long[1:], "[1,]", api.BadInput, 3},
	} {
		for _, n := range []int{-1, 0, 1, 9} {
			want := api.Result{Status: c.status, At: c.at}
			if got := Run(c.filter, c.input, n, 50-n); !reflect.DeepEqual(got, want) {
				t.Errorf("Run(%.40q, %.40q, %d): %+v, want %+v", c.filter, c.input, n, got, want)
			}
		}
	}
}

func TestPlacesAreThoseOfTheReaders(t *testing.T) {
	for _, s := range []string{"", "[", "[1", "[1,]", `{"a"}`, "1 2", "def", "$x", "-", "..a", `"\q"`, "@", "nul", "1e5", "{a:1", "\x00", "1 |= 2 |= 3"} {
		_, e, at := filter.Pretty(s)
		if got := Run(s, "0", 1, 1); (got.Status == api.BadFilter) != (e != api.OK) || got.At != at {
			t.Errorf("filter %q: %+v, want place %d", s, got, at)
		}
		_, e, at = text.Canon(s)
		if got := Run(".", s, 1, 1); (got.Status == api.BadInput) != (e != api.OK) || got.At != at {
			t.Errorf("input %q: %+v, want place %d", s, got, at)
		}
	}
}

func TestDepth(t *testing.T) {
	nested := func(k int) string {
		s := "def f0: 7; "
		for i := 1; i < k; i++ {
			s += "def f" + strings.Repeat("i", i) + ": f" + strings.Repeat("i", i-1) + "; "
		}
		return strings.Replace(s, "f0", "f", 1) + "f" + strings.Repeat("i", k-1)
	}
	for _, c := range []struct {
		k, depth int
		want     string
	}{
		{1, math.MinInt, "~"}, {1, -1, "~"}, {1, 0, "~"}, {1, 1, "7."}, {1, 50, "7."},
		{2, 1, "~"}, {2, 2, "7."}, {3, 2, "~"}, {3, 3, "7."}, {15, 14, "~"}, {15, 15, "7."},
	} {
		expect(t, nested(c.k), "0", 9, c.depth, c.want)
	}
	down := "def down: if . == 1 then 7 else . - 1 | down end; down"
	for _, c := range []struct {
		input string
		depth int
		want  string
	}{
		{"49", 49, "7."}, {"50", 49, "~"}, {"50", 50, "7."}, {"51", 50, "~"},
		{"50", 51, "7."}, {"51", 51, "~"}, {"51", 1000, "~"}, {"50", math.MaxInt, "7."}, {"51", math.MaxInt, "~"},
		{"1", 0, "~"}, {"1", -5, "~"}, {"1", 1, "7."}, {"2", 1, "~"},
	} {
		expect(t, down, c.input, 9, c.depth, c.want)
	}
}

func TestWhatCountsAsDeep(t *testing.T) {
	for _, c := range []struct {
		filter string
		depth  int
		want   string
	}{
		// The filters that there are don't, the definitions among them do.
		{"[1, 2] | length, keys, (sort | add), first(1, 2), [limit(1; 5)], [range(0; 2)], path(.[0])", 0, "2 [0,1] 3 1 [5] [0,1] [0]."},
		{"[1] | map(.)", 0, "~"}, {"[1] | map(.)", 1, "[1]."},
		{"select(true)", 0, "~"}, {"select(true)", 1, "0."},
		{"recurse(empty)", 0, "~"}, {"recurse(empty)", 1, "0."},
		{"recurse(if . < 2 then . + 1 else empty end)", 2, "0 1~"}, {"recurse(if . < 2 then . + 1 else empty end)", 3, "0 1 2."},
		{"until(. > 2; . + 1)", 3, "~"}, {"until(. > 2; . + 1)", 4, "3."},
		{"repeat(.)", 2, "0 0~"},
		{"[while(. < 2; . + 1)]", 2, "~"}, {"[while(. < 2; . + 1)]", 3, "[0,1]."},
		{"isvalid(1)", 0, "~"}, {"isvalid(1)", 1, "true."},
		{"last(1, 2)", 0, "~"}, {"last(1, 2)", 1, "2."},
		// A definition that nobody calls counts nothing, nor does a filter that stands by itself.
		{"def f: f; 1", 0, "1."},
		{"def f: f; if true then 1 else f end", 0, "1."},
		{"[[[[1]]]] | .[0][0][0][0]", 0, "1."},
		// One behind the other is not one in the other.
		{"def f: 1; f, f, (f | f), [f]", 1, "1 1 1 [1]."},
		{"def f: 1; def g: f; f, g", 1, "1~"},
		{"def f: 1; def g: f; f, g", 2, "1 1."},
		// What was handed over is as deep as where it is called.
		{"def f(g): g; f(1)", 1, "1."},
		{"def f(g): g; def h: 1; f(h)", 1, "~"},
		{"def f(g): g; def h: 1; f(h)", 2, "1."},
		{"def f(g): g; def h: 1; f(f(h))", 2, "~"},
		{"def f(g): g; def h: 1; f(f(h))", 3, "1."},
		{"def f(g): def i: g; i; def h: 1; f(h)", 2, "~"},
		{"def f(g): def i: g; i; def h: 1; f(h)", 3, "1."},
		{"def f(g): def i: g; i; f(1)", 2, "1."},
		// A parameter that hands a parameter on stands no deeper for that.
		{"def a(x): x; def b(x): a(x); def c(x): b(x); c(1)", 3, "1."},
		{"def a(x): x; def b(x): a(x); def c(x): b(x); c(1)", 2, "~"},
	} {
		expect(t, c.filter, "0", 20, c.depth, c.want)
	}
}

func TestInputIsGivenAsItsCanonicalText(t *testing.T) {
	for _, s := range []string{
		"null", " true", "-0", "9223372036854775807", "-9223372036854775808", `"\u0041\/\ud83d\ude00\u001f"`,
		"[ ]", `{"b":1,"a":[1 , 2],"b":{}}`, strings.Repeat("[", 64) + strings.Repeat("]", 64),
	} {
		canon, e, _ := text.Canon(s)
		want := api.Result{Status: api.Full, Outputs: []string{canon}}
		if got := Run(".", s, 1, 0); e != api.OK || !reflect.DeepEqual(got, want) {
			t.Errorf("Run of . on %s: %+v, want %s", s, got, canon)
		}
		if again, e, at := text.Canon(canon); again != canon || e != api.OK || at != 0 {
			t.Errorf("Canon(%s) = %s, %d, %d", canon, again, e, at)
		}
	}
}

func TestDeepValuesHaveTexts(t *testing.T) {
	expect(t, "[.]", strings.Repeat("[", 64)+strings.Repeat("]", 64), 2, 0, strings.Repeat("[", 65)+strings.Repeat("]", 65)+".")
	expect(t, "{a: {a: .}} | error", strings.Repeat(`{"a":`, 63)+"{}"+strings.Repeat("}", 63), 2, 0, "!"+strings.Repeat(`{"a":`, 65)+"{}"+strings.Repeat("}", 65))
	// Nothing may stand in itself as often as values do.
	defer debug.SetMaxStack(debug.SetMaxStack(1 << 20))
	const deep = 50000
	r := Run("reduce range(0; .) as $i (null; [.])", strconv.Itoa(deep), 1, 0)
	if len(r.Outputs) != 1 || r.Outputs[0] != strings.Repeat("[", deep)+"null"+strings.Repeat("]", deep) {
		t.Error("a deep array is not given as it is")
	}
	expect(t, "(reduce range(0; 50000) as $i (null; [.])) as $d | ($d == [$d]), ($d < [$d]), ([$d] - [$d]), ([$d, 1] | sort | .[0]), ($d | [..] | length)", "0", 9, 0, "false true [] 1 50001.")
	expect(t, "(reduce range(0; 50000) as $i (null; {a: .})) as $d | ($d == {a: $d}), ([$d] - [$d]), ($d | tojson | length)", "0", 9, 0, "false [] 300004.")
	expect(t, "[range(0; 50000) | \"a\"] as $p | null | setpath($p; 1) | getpath($p), (delpath($p) | getpath($p)), (path(getpath($p)) == $p)", "0", 9, 0, "1 null true.")
	expect(t, "[path(reduce range(0; 50000) as $i (.; .[0]))[]] | length, add", "null", 9, 0, "50000 0.")
	expect(t, "(reduce range(0; 50000) as $i (.; .[0])) |= 1 | tojson | length", "null", 9, 0, "100001.")
}

func TestTheSameAgain(t *testing.T) {
	const f = `.[] as $x | [$x, 1], {a: $x}, (.[0] = $x), error`
	first := Run(f, `["a",{"b":2}]`, 3, 0)
	want := api.Result{Status: api.Full, Outputs: []string{`["a",1]`, `{"a":"a"}`, `["a",{"b":2}]`}}
	if !reflect.DeepEqual(first, want) {
		t.Fatalf("%+v", first)
	}
	for i := range first.Outputs {
		first.Outputs[i] = "written over"
	}
	_ = append(first.Outputs[:0], "x", "y", "z", "w")
	if again := Run(f, `["a",{"b":2}]`, 3, 0); !reflect.DeepEqual(again, want) {
		t.Errorf("%+v, want %+v", again, want)
	}
	if other := Run(f, `["a",{"b":2}]`, 9, 0); other.Status != api.Failed || other.Error != `["a",{"b":2}]` {
		t.Errorf("%+v", other)
	}
	if again := Run(f, `["a",{"b":2}]`, 3, 0); !reflect.DeepEqual(again, want) {
		t.Errorf("%+v, want %+v", again, want)
	}
}
