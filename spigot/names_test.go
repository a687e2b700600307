package spigot

import "testing"

func TestParameters(t *testing.T) {
	expectAll(t, []sample{
		{"def f(x): x; f(1)", "0", "1."}, {"def f(x): x | x; f(. * 2)", "3", "12."}, {"def f(x; y): x + y; f(1, 2; 10, 20)", "0", "11 21 12 22."}, {"def f(x; y): y, x; f(1; 2)", "0", "2 1."},
		{"def f(x): [x, x]; f(1, 2)", "0", "[1,2,1,2]."}, {"def f(x): 1; f(error)", "0", "1."}, {"def f(x): x; f(empty)", "0", "."}, {"def f(x): x, 2; f(error(5))", "0", "!5"},
		// The input is that of where it is called.
		{"def f(x): .a | x; f(. + 1)", `{"a":5}`, "6."}, {"def f(x): (1, 2) | x; f([.])", "0", "[1] [2]."}, {"def f(x): .[] | x; 10 as $y | f(. + $y)", "[1,2]", "11 12."},
		// What is known is that of where it was handed over.
		{"def f(x): 2 as $v | x; 1 as $v | f($v)", "0", "1."}, {"def f(x): 2 as $v | x; 1 as $v | f(3 as $v | $v), f($v)", "0", "3 1."}, {"def f(x): def g: 2; x; def g: 1; f(g)", "0", "1."}, {"def g: 1; def f(g): g + 10; f(g)", "0", "11."},
		{"def f(x): x as $v | [$v, x]; 7 as $v | f($v + 1)", "0", "[8,8]."}, {"def f(x): def h(y): y + x; h(x * 2); f(. + 1)", "3", "12."},
		{"def f(x): if . < 3 then . + 1 | f(x + 10) else x end; f(.)", "0", "33."}, {"def f(x): if . == 0 then x else . - 1 | f(x, x) end; [3 | f(7)] | length", "0", "8."},
		{"def f(x): reduce (1, 2, 3) as $i (0; . + x); 10 as $i | f($i)", "0", "30."}, {"def f(g): label $l | (1, g, 2); label $l | f(break $l), 3", "0", "1."}, {"def f(g): label $l | (1, g, break $l, 2); label $l | f(5), 3", "0", "1 5 3."},
		// A parameter handed on, and one that hides another of its name.
		{"def f(x): x; def g(x): f(x + 1); g(5)", "0", "6."}, {"def g(x): def f(x): x * 2; f(x + 1); g(5)", "0", "12."}, {"def f(x; x): x; f(1; 2)", "0", "2."}, {"def f(a; b; a): [a, b]; f(1; 2; 3)", "0", "[3,2]."},
		{"def f(f): f; f(1)", "0", "1."}, {"def f(x): x; def h(x): f(f(x)); h(h(3))", "0", "3."}, {"def f(length): length; f(7), ([1] | length)", "0", "7 1."},
	})
}

func TestDefinitionsInDefinitions(t *testing.T) {
	expectAll(t, []sample{
		{"def f: 1; f", "0", "1."}, {"def f: . + 1; f | f", "0", "2."}, {"def f: def g: 3; g; f", "0", "3."}, {"def f: def g: def h: 4; h + 1; g + 1; f", "0", "6."}, {"def f(x): def g(y): x + y; g(10), g(20); f(1)", "0", "11 21."},
		{"def f: def f: 5; f; f", "0", "5."}, {"def f: 1; def g: f + 1; def f: 10; [f, g]", "0", "[10,2]."}, {"def f: 1; (def f: 2; f), f", "0", "2 1."}, {"[def f: 1; f, f]", "0", "[1,1]."}, {"1 + (def f: 2; f)", "0", "3."},
		{"def f: 1; def f: f + 1; f", "0", "~"}, {"def f: f; 1", "0", "1."}, {"def fac: if . < 2 then 1 else . * (. - 1 | fac) end; fac", "20", "2432902008176640000."}, {"def fac: if . < 2 then 1 else . * (. - 1 | fac) end; fac", "21", `!"overflow"`},
		{"def fib: if . < 2 then . else (. - 1 | fib) + (. - 2 | fib) end; fib", "15", "610."}, {"def even: if . == 0 then true else (. - 1 | if . == 0 then false else (. - 1 | even) end) end; even", "6", "true."},
		{"1 as $x | (def f: $x; 2 as $x | [f, $x])", "0", "[1,2]."}, {"1 as $x | (def f(y): $x + y; 2 as $x | f($x))", "0", "3."},
		{"def f: . as $v | if $v > 2 then $v else ($v + 1 | f), $v end; [f]", "0", "[3,2,1,0]."},
	})
}

func TestNamesThatHideOthers(t *testing.T) {
	expectAll(t, []sample{
		{"def length: 7; length, ([1] | length)", "[]", "7 7."}, {"def length(x): 7; length(1), length", "[]", "7 0."}, {"def f: 1; def f(x): 2; def f(x; y): 3; f, f(0), f(0; 0)", "0", "1 2 3."},
		{"def empty: 1; empty, select(false)", "0", "1."}, {"def recurse(f): 5; recurse(1), [limit(2; repeat(.))]", "0", "5 [0,0]."}, {"def map(f): 9; map(1), ([1] | map(1))", "0", "9 9."}, {"def path(f): 3; path(1)", "0", "3."},
		{"def not: 5; if not then not else 0 end", "0", "5."}, {"def error: 1; error, try error(2) catch .", "0", "1 2."}, {"def getpath(f): 4; path(getpath(1))", "0", `!"path"`}, {"def tojson: .a; path(tojson)", "null", `["a"].`},
		{"1 as $f | (def f: 2; label $f | f, $f, break $f)", "0", "2 1."},
	})
}

func TestLabels(t *testing.T) {
	expectAll(t, []sample{
		{"label $l | 1, 2", "0", "1 2."}, {"label $l | 1, break $l, 2", "0", "1."}, {"label $l | break $l", "0", "."}, {"(label $l | 1, break $l), 2", "0", "1 2."}, {"label $l | (1, break $l) | . + 1", "0", "2."},
		{"label $a | label $b | 1, break $a, 2", "0", "1."}, {"label $a | (label $b | 1, break $b, 2), 3", "0", "1 3."}, {"label $a | (label $b | 1, break $a, 2), 3", "0", "1."}, {"label $a | (label $a | 1, break $a, 2), 3, break $a, 4", "0", "1 3."},
		{"[label $l | range(0; 9) | if . == 3 then break $l else . end]", "0", "[0,1,2]."}, {"[.[] | label $l | if . == 2 then break $l else . end]", "[1,2,3]", "[1,3]."}, {"label $l | [1, break $l]", "0", "."}, {"label $l | {a: break $l}", "0", "."}, {"label $l | 1 + break $l", "0", "."},
		{"label $l | (.[] | if . == 2 then break $l else . end), 9", "[1,2,3]", "1."}, {"label $l | reduce (1, 2) as $x (0; break $l)", "0", "."}, {"label $l | reduce (1, break $l) as $x (0; .)", "0", "."}, {"label $l | foreach (1, 2, 3) as $x (0; . + $x; if . > 2 then ., break $l else . end)", "0", "1 3."},
		// Each time a label stands there, it is another one.
		{"def f(g): label $l | (if . > 0 then (. - 1 | f(break $l)), 10 + . else g, 99 end); [2 | f(5)]", "0", "[12]."},
		{"def f(g): label $l | (if . > 0 then (. - 1 | f(g)), 10 + . else g, 99 end); [2 | label $l | f(break $l), 7]", "0", "[]."},
		{"def f: label $l | if . == 0 then break $l else (. - 1 | f), . end; [3 | f]", "0", "[1,2,3]."},
		{"(1, 2) | label $l | ., break $l, 5", "0", "1 2."},
		// An error and too deep go through.
		{"label $l | 1, error(2), break $l", "0", "1!2"}, {"label $l | 1, (def f: f; f), break $l", "0", "1~"}, {"label $l | 1, break $l | error", "0", "!1"},
	})
}

func TestWhatTryCatches(t *testing.T) {
	expectAll(t, []sample{
		{"try 1", "0", "1."}, {"try (1, 2)", "0", "1 2."}, {"try empty", "0", "."}, {"try error", "0", "."}, {"try (1, error, 2)", "0", "1."}, {"error?", "0", "."}, {"(1, error, 2)?", "0", "1."}, {".a?", "1", "."}, {".a?.b?", `{"a":1}`, "."}, {".[]?", "5", "."}, {"[.[] | (1 / .)?]", "[1,0,2]", "[1,0]."}, {"1?", "0", "1."}, {"error??", "0", "."},
		{"try error(5) catch .", "0", "5."}, {"try error(5) catch (., . + 1)", "0", "5 6."}, {"try (1, error(5), 2) catch (., 7)", "0", "1 5 7."}, {"try 1 catch 2", "0", "1."}, {"try error catch empty", "0", "."}, {"try error({a: 1}) catch .a", "0", "1."}, {"try error(null) catch .", "0", "null."}, {"try (.a, 1 / 0) catch .", "{}", `null "zero".`}, {"(try .a catch .), 3", "1", `"type" 3.`},
		{"try error(1) catch error(2)", "0", "!2"}, {"try error(1) catch (7, error(2), 8)", "0", "7!2"}, {"try (try error(1) catch error(2)) catch .", "0", "2."}, {"try (try error(1)) catch 5", "0", "."}, {"try (try 1 catch 2, error(3)) catch .", "0", "1 3."}, {"1 as $x | try error(2) catch [., $x]", "0", "[2,1]."},
		// What stands behind it is no part of it.
		{"try 1 | error(2)", "0", "!2"}, {"(1, 2)? | error", "0", "!1"}, {"try (1, 2) catch 9 | if . == 2 then error(3) else . end", "0", "1!3"}, {"(try 1 catch 9) + error(4)", "0", "!4"}, {"[(1, 2)? | if . == 2 then error(5) else . end]", "0", "!5"}, {"(1?) as $x | error($x)", "0", "!1"}, {"try error(1) catch 2 | error", "0", "!2"}, {"reduce (1, 2)? as $x (0; error(6))", "0", "!6"},
		{"first((1, 2)?) | error(6)", "0", "!6"}, {"try (1 | error(3)) catch [.]", "0", "[3]."},
		// No break and nothing too deep is an error.
		{"label $l | try break $l catch 1", "0", "."}, {"label $l | (try (1, break $l) catch 2), 3", "0", "1."}, {"label $l | break $l?, 1", "0", "."}, {"try (def f: f; f) catch 1", "0", "~"}, {"(def f: 1, f; f)? | empty", "0", "~"}, {"try error(1) catch (def f: f; f)", "0", "~"}, {"isvalid(def f: f; f)", "0", "~"}, {"label $l | try error(1) catch break $l", "0", "."},
		{"try (label $l | 1, break $l, 2) catch 3", "0", "1."}, {"try (label $l | 1, error(7), 2) catch .", "0", "1 7."},
	})
}

// TestEndsEndWhatTheyStandIn: an end otherwise than done, in each place of each
// filter.
func TestEndsEndWhatTheyStandIn(t *testing.T) {
	for _, around := range []string{
		"#", "# | 1", "1 | #", "#, 1", "1 as $x | #", "# as $x | 1", "#.a", "#[0]", "[1][#]", "#[]", "[#]", "[1, #]", "{a: #}", "{(#): 1}", "{a: 1, b: #}", "null // #", "# or 1", "false or #", "# and 1", "true and #", "# + 1", "1 + #", "# == 1", "1 < #", "-#",
		"if # then 1 else 2 end", "if true then # else 2 end", "if false then 1 else # end", "reduce # as $x (0; .)", "reduce 1 as $x (#; .)", "reduce 1 as $x (0; #)", "foreach # as $x (0; .; .)", "foreach 1 as $x (#; .; .)", "foreach 1 as $x (0; #; .)", "foreach 1 as $x (0; .; #)",
		"label $m | #", "def f: #; f", "def f(x): x; f(#)", "try error catch #", "error(#)", "[1] | has(#)", `"a" | split(#)`, "[] | join(#)", "range(#; 1)", "range(0; #)", "first(#)", "limit(#; 1)", "limit(1; #)", "path(#)", "getpath(#)", "setpath(#; 1)", "setpath([]; #)", "delpath(#)", "# |= 1", ". |= #", "# = 1", ". = #",
		"path(# | .)", "path(.[#])", "path(if # then . else . end)", "path(if true then # else . end)", "path(null // #)", "path(reduce # as $x (.; .))", "path(reduce 1 as $x (.; #))", "path(foreach 1 as $x (.; .; #))", "path(first(#))", "path(limit(#; .))", "path(getpath(#))", "path(# as $x | .)", "path(def f: #; f)", "path(label $m | #)", "path(1 + #)", "path([#])",
		"map(#)?", "select(#)", "recurse(#) | empty", "until(#; .)", "until(false; #)", "while(#; .)", "last(#)",
	} {
		for _, end := range [][2]string{{`error("e")`, `!"e"`}, {"(def d: d; d)", "~"}} {
			f := replaceMark(around, end[0])
			want := end[1]
			if around == "map(#)?" && want != "~" {
				want = "."
			}
			expect(t, f, "[5]", 9, 50, want)
			expect(t, "try (("+f+"), 8) catch 7", "[5]", 9, 50, map[string]string{`!"e"`: "7.", "~": "~", ".": "8."}[want])
		}
		expect(t, "(label $l | ("+replaceMark(around, "break $l")+"), 8), 9", "[5]", 9, 50, "9.")
	}
}

func replaceMark(s, with string) string {
	out := ""
	for _, c := range s {
		if c == '#' {
			out += "(" + with + ")"
		} else {
			out += string(c)
		}
	}
	return out
}
