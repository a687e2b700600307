package spigot

import (
	"strings"
	"testing"

	"spigot/api"
)

// never comes to no end that anybody could wait for.
const never = "(range(0; 999999999999999999) | empty)"

// behinds are what may stand where nobody asks.
var behinds = []string{"error", `error("x")`, "(def d: d; d)", never, "range(0; 999999999999999999)", "[range(0; 999999999999999999)]", "(def d: error, d; d)"}

// expectUnasked asks for what a filter gives whatever stands in the place of #.
func expectUnasked(t *testing.T, f, input string, n int, want string) {
	t.Helper()
	for _, b := range behinds {
		expect(t, replaceMark(f, b), input, n, api.MaxDepth, want)
	}
}

func TestNothingBehindTheLastThatIsAskedFor(t *testing.T) {
	expectUnasked(t, "#", "0", 0, "")
	expectUnasked(t, "#", "0", -1, "")
	for _, f := range []string{
		"1, #", "1, (2, #)", "(1, #) | .", "1 | (., #)", "1 as $x | ($x, #)", "(1, #) as $x | $x", "[1, [2]] | (.[0], #)", "[1] | .[0, #]", "(1, #)?", "try (1, #) catch 2", "try error(1) catch (., #)", "(1, #) // 2", "null // (1, #)", "(null, false, 1, #) // 2", "if (true, #) then 1 else 2 end", "if true then (1, #) else 2 end", "if true then 1 else # end", "if false then # else 1 end",
		"reduce 1 as $x ((0, #); $x)", "foreach (1, #) as $x (0; $x; .)", "foreach 1 as $x ((0, #); $x; .)", "foreach 1 as $x (0; ($x, #); .)", "foreach 1 as $x (0; $x; (., #))", "label $l | 1, #", "label $l | 1, break $l, #", "def f: 1, #; f", "def f(g): 1, g; f(#)", "def f(g): 1; f(#)", "def f(g): g; f(1, #)", "first(1, #)", "limit(1; 1, #)", "limit(2; 1, #)", "limit((1, #); 1, 2)", "range((1, #); 3)", "range(1; (3, #))", "(1, #) + 0", "0 + (1, #)", "1 * (1, #)", "-(-1, #)", "[1] | getpath([0], #)",
		"{a: 1} | .a, #", "recurse(#) | 1", "1 | recurse(#)", "1 | repeat(#)", "1 | while(true; #)", "1 | select(true, #)", "1 | until(true, #; .)", "1 | until(true; #)", "[1] | .[], #", "[1] | .. | .[]?, #", "1, error(#)", "([1] | first(.[], #)), #",
	} {
		expectUnasked(t, f, "0", 1, "1")
	}
	for _, f := range []string{
		"true or #", "(1, #) or #", "1 == (1, #)", "(1, #) == 1", "(0, #) < 1", "isvalid(1, #)", "[1] | has(0, #)", "(true, #) and (2, #)", "not, #",
	} {
		want := "true"
		expectUnasked(t, f, "null", 1, want)
	}
	expectUnasked(t, "false and #, #", "0", 1, "false")
	expectUnasked(t, "[1, 2], #", "0", 1, "[1,2]")
	expectUnasked(t, "{a: (1, #)}", "0", 1, `{"a":1}`)
	expectUnasked(t, `{("a", #): (1, #), ("b", #): (2, #)}`, "0", 1, `{"a":1,"b":2}`)
	expectUnasked(t, "path(.a, #)", "null", 1, `["a"]`)
	expectUnasked(t, "path(.[0, #])", "null", 1, "[0]")
	expectUnasked(t, "path(..[0, #])", "null", 1, "[0]")
	expectUnasked(t, "path(.a // #)", `{"a":1}`, 1, `["a"]`)
	expectUnasked(t, "setpath([0], #; 1, #)", "null", 1, "[1]")
	expectUnasked(t, "delpath([0], #)", "[1]", 1, "[]")
	expectUnasked(t, `split(",", #)`, `"a"`, 1, `["a"]`)
	expectUnasked(t, `join(",", #)`, `["a"]`, 1, `"a"`)
	expectUnasked(t, ".a = (1, #)", "null", 1, `{"a":1}`)
	expectUnasked(t, ".[] |= (5, #)", "[1,2]", 1, "[5,5]")
	expectUnasked(t, ".[] |= #", "[]", 1, "[]")
	expectUnasked(t, "(.a |= 1), #", "null", 1, `{"a":1}`)
	expectUnasked(t, "1, 2, #", "0", 2, "1 2")
	expectUnasked(t, "(1, 2) | (., #)", "0", 1, "1")
	expectUnasked(t, "foreach (1, 2, #) as $x (0; . + $x; .)", "0", 2, "1 3")
	expectUnasked(t, "(1, null, 2, #) // 3", "0", 2, "1 2")
	expectUnasked(t, ".., #", "[1]", 2, "[1] 1")
}

func TestNothingBehindFirst(t *testing.T) {
	for _, f := range []string{"first(1, #)", "first((1, #) | .)", "first(1 | (., #))", "first(first(1, #), #)", "[first(1, #)] | .[0]", "first((1, 2, #)?)", "first((null, 1, #) // #)", "first(1 + (0, #))", "first(foreach (1, #) as $x (0; $x; (., #)))", "first(label $l | 1, break $l, #)", "first(limit(3; 1, #))", "1 | first(recurse(#))", "1 | first(def f: ., f, #; f)", "def f(g): first(g); f(1, #)"} {
		expectUnasked(t, f, "0", 9, "1.")
	}
	expectUnasked(t, "first(1, #), 2", "0", 9, "1 2.")
	expectUnasked(t, "(1, 2) | first(., #)", "0", 9, "1 2.")
	expectUnasked(t, "path(first(.a, #))", "null", 9, `["a"].`)
	expectUnasked(t, "[first(1, #), first(2, #)]", "0", 9, "[1,2].")
	expectUnasked(t, "reduce first(1, #) as $x (0; . + $x)", "0", 9, "1.")
	expectUnasked(t, "first(.a, #) |= 1", "null", 9, `{"a":1}.`)
	expectUnasked(t, "first(.a, #) = 1", "null", 9, `{"a":1}.`)
}

func TestNothingBehindLimit(t *testing.T) {
	expectUnasked(t, "limit(0; #), limit(-1; #)", "0", 9, ".")
	expectUnasked(t, "limit(1; 1, #)", "0", 9, "1.")
	expectUnasked(t, "limit(3; 1, 2, 3, #)", "0", 9, "1 2 3.")
	expectUnasked(t, "limit(1, 0, 2; 1, 2, #)", "0", 9, "1 1 2.")
	expectUnasked(t, "[limit(2; 1, 2, #)]", "0", 9, "[1,2].")
	expectUnasked(t, "limit(2; .[], #)", "[1,2]", 9, "1 2.")
	expectUnasked(t, "path(limit(2; .[], #))", "[1,2]", 9, "[0] [1].")
	expectUnasked(t, "limit(2; limit(2; 1, 2, #), #)", "0", 9, "1 2.")
	expectUnasked(t, "limit(1; 1, #), 2", "0", 9, "1 2.")
	expectUnasked(t, "limit(2; (1, 2, #) | .)", "0", 9, "1 2.")
	expectUnasked(t, "limit(2; foreach (1, 2, #) as $x (0; . + $x; .))", "0", 9, "1 3.")
	expectUnasked(t, "[limit(3; 0 | recurse(if . == 2 then # else . + 1 end))]", "0", 9, "[0,1,2].")
}

func TestNothingBehindABreak(t *testing.T) {
	expectUnasked(t, "label $l | 1, break $l, #", "0", 9, "1.")
	expectUnasked(t, "label $l | break $l, #", "0", 9, ".")
	expectUnasked(t, "(label $l | 1, break $l, #), 2", "0", 9, "1 2.")
	expectUnasked(t, "label $a | label $b | 1, break $a, #", "0", 9, "1.")
	expectUnasked(t, "label $a | (label $b | 1, break $b, #), 2, break $a, #", "0", 9, "1 2.")
	expectUnasked(t, "label $l | (1, 2, #) | ., (if . == 2 then break $l else empty end)", "0", 9, "1 2.")
	expectUnasked(t, "label $l | [break $l, #]", "0", 9, ".")
	expectUnasked(t, "label $l | break $l + #", "0", 9, ".")
	expectUnasked(t, "label $l | reduce (1, #) as $x (0; break $l)", "0", 9, ".")
	expectUnasked(t, "[label $l | foreach (1, 2, #) as $x (0; . + $x; ., (if . == 3 then break $l else empty end))]", "0", 9, "[1,3].")
	expectUnasked(t, "def f(g): 1, g, #; label $l | f(break $l)", "0", 9, "1.")
	expectUnasked(t, "path(label $l | .a, break $l, #)", "null", 9, `["a"].`)
	expectUnasked(t, "label $l | try (1, break $l, #) catch #", "0", 9, "1.")
	expectUnasked(t, "label $l | (break $l, #) // #", "0", 9, ".")
}

func TestStreamsWithoutAnEnd(t *testing.T) {
	for _, c := range []struct {
		filter, input string
		n, depth      int
		want          string
	}{
		{"range(0; 999999999999999999)", "0", 3, 0, "0 1 2"},
		{"range(0; 999999999999999999) | select(. % 1000 == 999)", "0", 2, 1, "999 1999"},
		{"first(range(0; 999999999999999999))", "0", 2, 0, "0."},
		{"label $l | (range(0; 999999999999999999) | ., break $l)", "0", 3, 0, "0."},
		{"recurse(. + 1)", "0", 3, 5, "0 1 2"}, {"recurse(. + 1)", "0", 5, 5, "0 1 2 3 4"}, {"recurse(. + 1)", "0", 6, 5, "0 1 2 3 4~"},
		{"limit(3; recurse(. + 1))", "0", 9, 3, "0 1 2."}, {"limit(3; recurse(. + 1))", "0", 9, 2, "0 1~"}, {"limit(3; recurse(. + 1))", "0", 9, 0, "~"},
		{"first(repeat(.)) // error", "7", 3, 1, "7."}, {"first(def f: 1, f; f)", "0", 2, 1, "1."}, {"def f: 1, f; f", "0", 2, 2, "1 1"}, {"def f: 1, f; f", "0", 3, 2, "1 1~"},
		{"[recurse(. + 1)]", "0", 9, 50, "~"}, {"reduce recurse(. + 1) as $x (0; .)", "0", 9, 50, "~"}, {"foreach recurse(. + 1) as $x (0; $x; .)", "0", 9, 3, "0 1 2~"}, {"last(recurse(. + 1))", "0", 9, 50, "~"}, {"limit(2; last(recurse(. + 1)))", "0", 9, 50, "~"},
		{"def f: 1, f; first(f), [limit(2; f)], [f]", "0", 9, 2, "1 [1,1]~"},
	} {
		expect(t, c.filter, c.input, c.n, c.depth, c.want)
	}
}

// TestDeepestNests: what stands in each other as deep as texts and depths let
// it.
func TestDeepestNests(t *testing.T) {
	rep := strings.Repeat
	for _, c := range [][2]string{
		{"def f: " + rep("-", 1900) + "f; f", "~"},
		{"def f(x): if . == 48 then x else . + 1 | f(" + rep("-", 1900) + "x) end; f(1)", "1."},
		{"def f(x): if . == 48 then x else . + 1 | f(" + rep("try ", 470) + "x) end; f(1, error)", "1."},
		{"def f: if . == 49 then (1, error) else . + 1 | " + rep("try ", 470) + "f end; f", "1."},
		{"def f: if . == 49 then . else . + 1 | " + rep("[", 900) + "f" + rep("]", 900) + " end; f | tojson | length", "88202."},
		{"label $a | (def f: if . == 49 then break $a else . + 1 | (" + rep("label $b|", 180) + "f) end; f), 1", "."},
		{"def g(y): y; def f(x): if . == 24 then x else . + 1 | f(g(" + rep("-", 1880) + "x)) end; f(1)", "1."},
		{"def f(x): if . == 48 then x else . + 1 | f(" + rep("(null // ", 180) + "x" + rep(")", 180) + ") end; f(1)", "1."},
		{rep("1,", 990) + "1 | empty", "."},
		{rep("[", 990) + rep("]", 990) + " | [..] | length", "990."},
	} {
		expect(t, c[0], "0", 9, 50, c[1])
	}
}
