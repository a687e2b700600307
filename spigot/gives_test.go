package spigot

import (
	"strings"
	"testing"
)

// Inputs of each kind of value, in the order of values.
const (
	someNull   = "null"
	someFalse  = "false"
	someTrue   = "true"
	someNumber = "-3"
	someString = `"é,a"`
	someArray  = "[2,1]"
	someObject = `{"a":[2],"b":1}`
)

const typed = `!"type"`

// expectKinds asks for what a filter gives for an input of each kind.
func expectKinds(t *testing.T, filter string, want [7]string) {
	t.Helper()
	for i, input := range []string{someNull, someFalse, someTrue, someNumber, someString, someArray, someObject} {
		expect(t, filter, input, 100, 50, want[i])
	}
}

func TestValuesThatStandThere(t *testing.T) {
	expectKinds(t, ".", [7]string{"null.", "false.", "true.", "-3.", `"é,a".`, "[2,1].", `{"a":[2],"b":1}.`})
	expectKinds(t, "7", [7]string{"7.", "7.", "7.", "7.", "7.", "7.", "7."})
	expectAll(t, []sample{
		{"null", "1", "null."}, {"false", "1", "false."}, {"true", "1", "true."},
		{"007, 999999999999999999", "1", "7 999999999999999999."},
		{`"a\u00e9\n\ud83d\ude00"`, "1", `"aé` + `\n😀".`},
		{"1 as $x | 2 as $y | $x, $y, $x", "0", "1 2 1."},
		{". as $x | [$x, $x] | $x", `{"a":1}`, `{"a":1}.`},
	})
}

func TestDescent(t *testing.T) {
	expectKinds(t, "..", [7]string{"null.", "false.", "true.", "-3.", `"é,a".`, "[2,1] 2 1.", `{"a":[2],"b":1} [2] 2 1.`})
	expectAll(t, []sample{
		{"..", `{"c":{"z":1,"y":[[],{}]},"b":[[1],2]}`, `{"b":[[1],2],"c":{"y":[[],{}],"z":1}} [[1],2] [1] 1 2 {"y":[[],{}],"z":1} [[],{}] [] {} 1.`},
		{"[..] | length", strings.Repeat("[", 64) + strings.Repeat("]", 64), "64."},
		{".. | ..", "[1]", "[1] 1 1."},
		{"..[]?", "[[1],2]", "[1] 2 1."},
	})
}

func TestPipesAndCommas(t *testing.T) {
	expectAll(t, []sample{
		{"1 | 2", "0", "2."},
		{"(1, 2) | (., 10)", "0", "1 10 2 10."},
		{"(1, 2) | . + 1 | (., -.)", "0", "2 -2 3 -3."},
		{"empty | 1", "0", "."},
		{"1 | empty", "0", "."},
		{"(1, 2) | empty", "0", "."},
		{"1, 2, 3, 4", "0", "1 2 3 4."},
		{"empty, 1, empty, 2, empty", "0", "1 2."},
		{"empty, empty", "0", "."},
		{"(1, 2), ((3, empty), 4)", "0", "1 2 3 4."},
		{"1, 2 | ., 3", "0", "1 3 2 3."},
		{"1 | (., 2 | ., 3)", "0", "1 3 2 3."},
		{"(((1)))", "0", "1."},
		{"., .", "5", "5 5."},
	})
}

func TestBindings(t *testing.T) {
	expectAll(t, []sample{
		{"(1, 2) as $x | $x + 10", "0", "11 12."},
		{"(1, 2) as $x | (3, 4) as $y | [$x, $y]", "0", "[1,3] [1,4] [2,3] [2,4]."},
		{"(1, 2) as $x | ., $x", "0", "0 1 0 2."},
		{". + 1 as $x | $x", "5", "6."},
		{"empty as $x | 1", "0", "."},
		{"error as $x | 1", "4", "!4"},
		{"(1, error(3)) as $x | $x", "4", "1!3"},
		{"1 as $x | 2 as $x | $x", "0", "2."},
		{"1 as $x | (2 as $x | $x), $x", "0", "2 1."},
		{"1 as $x | ($x + 1) as $x | $x", "0", "2."},
		{"1 as $x | . | $x", "0", "1."},
		{"[1 as $x | 5 | $x, .]", "0", "[1,5]."},
		{".[] as $x | .", "[1,2]", "[1,2] [1,2]."},
		{".a as $a | .b as $b | $b - $a", `{"a":1,"b":5}`, "4."},
		{"1 as $if | $if", "0", "1."},
	})
}

func TestIndices(t *testing.T) {
	expectKinds(t, `.["a"]`, [7]string{"null.", typed, typed, typed, typed, typed, "[2]."})
	expectKinds(t, ".a", [7]string{"null.", typed, typed, typed, typed, typed, "[2]."})
	expectKinds(t, ".zzz", [7]string{"null.", typed, typed, typed, typed, typed, "null."})
	expectKinds(t, ".[0]", [7]string{"null.", typed, typed, typed, typed, "2.", typed})
	expectKinds(t, ".[-9]", [7]string{"null.", typed, typed, typed, typed, "null.", typed})
	expectKinds(t, ".[null]", [7]string{typed, typed, typed, typed, typed, typed, typed})
	expectKinds(t, ".[true]", [7]string{typed, typed, typed, typed, typed, typed, typed})
	expectKinds(t, ".[[0]]", [7]string{typed, typed, typed, typed, typed, typed, typed})
	expectKinds(t, ".[{}]", [7]string{typed, typed, typed, typed, typed, typed, typed})
	expectKinds(t, ".[empty]", [7]string{".", ".", ".", ".", ".", ".", "."})
	expectAll(t, []sample{
		{".[0], .[1], .[2], .[3], .[999999999999999999]", "[7,8,9]", "7 8 9 null null."},
		{".[-1], .[-2], .[-3], .[-4], .[-999999999999999999]", "[7,8,9]", "9 8 7 null null."},
		{".[0], .[-1]", "[]", "null null."},
		{". as $i | [1] | .[$i]", "9223372036854775807", "null."},
		{". as $i | [1] | .[$i]", "-9223372036854775808", "null."},
		{`.[""], .["é"], .["a b"]`, `{"":1,"é":2,"a b":3}`, "1 2 3."},
		{"(.a, .b)[0, 1]", `{"a":[1,2],"b":[3,4]}`, "1 2 3 4."},
		{".a[.b]", `{"a":[1,2],"b":1}`, "2."},
		{".a[.b, .c]", `{"a":[1,2],"b":1,"c":0}`, "2 1."},
		{".[1, \"a\"]", "[5,6]", "6" + typed},
		{".[(0, error(9))]", "[5,6]", "5!9"},
		{".a.b.c", `{"a":{"b":{"c":1}}}`, "1."},
		{".a.b.c", `{"a":null}`, "null."},
		{".a.b.c", `{"a":{"b":5}}`, typed},
		{".a[0].b[1]", `{"a":[{"b":[3,4]}]}`, "4."},
		{`.["a"].b, .a["b"], . .a.b`, `{"a":{"b":1}}`, "1 1 1."},
		{"empty[error]", "0", "."},
		{"empty.a", "0", "."},
		{"[10, 20][1], {a: 5}.a, {a: 5}[\"a\"]", "0", "20 5 5."},
	})
}

func TestEach(t *testing.T) {
	expectKinds(t, ".[]", [7]string{typed, typed, typed, typed, typed, "2 1.", "[2] 1."})
	expectAll(t, []sample{
		{".[]", "[]", "."}, {".[]", "{}", "."},
		{".[]", `{"b":1,"a":2,"":3,"B":4}`, "3 4 2 1."},
		{".[][]", "[[1,2],[],[3]]", "1 2 3."},
		{".[][]", "[[1,2],5,[3]]", "1 2" + typed},
		{"(., .)[]", "[1,2]", "1 2 1 2."},
		{"empty[]", "0", "."},
		{".a[].b", `{"a":[{"b":1},{"b":2},{}]}`, "1 2 null."},
	})
}

func TestCollected(t *testing.T) {
	expectAll(t, []sample{
		{"[]", "5", "[]."}, {"[empty]", "5", "[]."}, {"[.]", "5", "[5]."},
		{"[1, 2, 3]", "0", "[1,2,3]."}, {"[[1, 2], [3]]", "0", "[[1,2],[3]]."},
		{"[.[] | . * 2]", "[1,2]", "[2,4]."},
		{"[1, error(2), 3]", "0", "!2"},
		{"[1, (2, 3 | error)]", "0", "!2"},
		{"[(def f: f; f)]", "0", "~"},
		{"[[[.]]]", "0", "[[[0]]]."},
	})
}

func TestBuilt(t *testing.T) {
	expectAll(t, []sample{
		{"{}", "5", "{}."},
		{"{a: 1}", "5", `{"a":1}.`},
		{`{b: 1, "a b": 2, ("c", "d"): 3}`, "5", `{"a b":2,"b":1,"c":3} {"a b":2,"b":1,"d":3}.`},
		{"{a: (1, 2), b: (3, 4)}", "0", `{"a":1,"b":3} {"a":1,"b":4} {"a":2,"b":3} {"a":2,"b":4}.`},
		{`{("a", "b"): (1, 2)}`, "0", `{"a":1} {"a":2} {"b":1} {"b":2}.`},
		{`{("a", "b"): 1, ("c", "d"): 2}`, "0", `{"a":1,"c":2} {"a":1,"d":2} {"b":1,"c":2} {"b":1,"d":2}.`},
		{"{a: 1, a: 2}", "0", `{"a":2}.`},
		{`{a: 1, b: 3, ("a"): 2}`, "0", `{"a":2,"b":3}.`},
		{`{a: (1, 2), a: (3, 4)}`, "0", `{"a":3} {"a":4} {"a":3} {"a":4}.`},
		{"{a: empty}", "0", "."}, {"{(empty): 1}", "0", "."}, {"{a: 1, b: empty}", "0", "."},
		{"{(empty): error}", "0", "."}, {"{a: empty, b: error}", "0", "."},
		{"{(1): 2}", "0", typed}, {"{(null): 2}", "0", typed}, {"{(true): 2}", "0", typed}, {"{([]): 2}", "0", typed}, {"{({}): 2}", "0", typed},
		{`{("a", 1): 2}`, "0", `{"a":2}` + typed},
		{`{a: 1, ("b", 1): 2}`, "0", `{"a":1,"b":2}` + typed},
		{`{a: (1, error("x"))}`, "0", `{"a":1}!"x"`},
		{"{a: .b, b: .a}", `{"a":1,"b":2}`, `{"a":2,"b":1}.`},
		{"{(.a): .b}", `{"a":"k","b":2}`, `{"k":2}.`},
		{`{a: {b: {}}}`, "0", `{"a":{"b":{}}}.`},
		{`{a: 1 // 2, b: null // 3}`, "0", `{"a":1,"b":3}.`},
	})
}

func TestAlternatives(t *testing.T) {
	expectAll(t, []sample{
		{"1 // 2", "0", "1."}, {"null // 2", "0", "2."}, {"false // 2", "0", "2."}, {"0 // 2", "0", "0."}, {`"" // 2`, "0", `"".`}, {"[] // 2", "0", "[]."},
		{"empty // 2", "0", "2."}, {"empty // empty", "0", "."}, {"null // null", "0", "null."}, {"null // (false, null)", "0", "false null."},
		{"(null, false, null) // (3, 4)", "0", "3 4."},
		{"(false, 1, null, 2, false) // 3", "0", "1 2."},
		{"(null, 1) // error", "0", "1."},
		{"error // 3", "0", "3."}, {"(null, error) // 3", "0", "3."}, {"(1, error, 2) // 3", "0", "1."}, {"(1, null, error, 2) // 3", "0", "1."},
		{"null // error(5)", "0", "!5"}, {"null // (1, error(5), 2)", "0", "1!5"}, {"error(1) // error(2)", "0", "!2"},
		{"null // false // 4", "0", "4."}, {"1 // 2 // 4", "0", "1."}, {"null // 2 // error", "0", "2."},
		{"(null // 1), 2", "0", "1 2."},
		{".a // .b", `{"b":1}`, "1."}, {".a // .b", `{"a":3,"b":1}`, "3."}, {".a // .b", "1", typed},
		{"(1, 2) // 3 | . + 1", "0", "2 3."},
		// What stands behind it is no part of it.
		{"1 // 2 | error", "0", "!1"}, {"(1 // 2) + error(7)", "0", "!7"}, {"[(1, 2) // 3 | if . == 2 then error(6) else . end]", "0", "!6"},
		{"(1, 2) // 3 | null", "0", "null null."},
		// No break and nothing too deep counts as done.
		{"label $l | (break $l // 1), 2", "0", "."}, {"label $l | ((null, break $l) // 1), 2", "0", "."},
		{"(def f: f; f) // 1", "0", "~"}, {"(1, (def f: f; f)) // 1", "0", "1~"}, {"null // (def f: f; f)", "0", "~"},
	})
}

func TestLogic(t *testing.T) {
	expectKinds(t, ". and true", [7]string{"false.", "false.", "true.", "true.", "true.", "true.", "true."})
	expectKinds(t, "true and .", [7]string{"false.", "false.", "true.", "true.", "true.", "true.", "true."})
	expectKinds(t, ". or false", [7]string{"false.", "false.", "true.", "true.", "true.", "true.", "true."})
	expectKinds(t, "false or .", [7]string{"false.", "false.", "true.", "true.", "true.", "true.", "true."})
	expectAll(t, []sample{
		{"true or error", "0", "true."}, {"false or error", "0", "!0"}, {"false and error", "0", "false."}, {"true and error", "0", "!0"},
		{"true or empty", "0", "true."}, {"false or empty", "0", "."}, {"false and empty", "0", "false."}, {"true and empty", "0", "."},
		{"empty or true", "0", "."}, {"empty and true", "0", "."}, {"error or true", "0", "!0"}, {"error and true", "0", "!0"},
		{"(true, false) or (true, false)", "0", "true true false."},
		{"(true, false) and (true, false)", "0", "true false false."},
		{"(false, null, 1) or (null, 2)", "0", "false true false true true."},
		{"(false, 5, null) and (null, 2)", "0", "false false true false."},
		{"false or false or true", "0", "true."}, {"true and true and false", "0", "false."}, {"true or false and false", "0", "true."},
	})
}

func TestConditions(t *testing.T) {
	expectKinds(t, "if . then 1 else 2 end", [7]string{"2.", "2.", "1.", "1.", "1.", "1.", "1."})
	expectAll(t, []sample{
		{"if true then 1 else error end", "0", "1."}, {"if null then error else 2 end", "0", "2."},
		{"if (true, false, 0) then (1, 2) else 3 end", "0", "1 2 3 1 2."},
		{"if empty then 1 else 2 end", "0", "."}, {"if error(7) then 1 else 2 end", "0", "!7"},
		{"if (1, error(7)) then . else 2 end", "0", "0!7"},
		{"if .a then .b else .c end", `{"a":false,"b":1,"c":2}`, "2."},
		{"if true then . else 1 end | . + 1", "5", "6."},
		{"if . > 1 then if . > 2 then 3 else 2 end else 1 end", "2", "2."},
		{"if true then empty else 1 end", "0", "."},
	})
}

func TestReduced(t *testing.T) {
	expectAll(t, []sample{
		{"reduce (1, 2, 3) as $x (0; . + $x)", "0", "6."},
		{"reduce (1, 2) as $x (10, 20; . + $x)", "0", "13 23."},
		{"reduce empty as $x (7; error)", "0", "7."}, {"reduce (1, 2) as $x (empty; error)", "0", "."},
		{"reduce (1, 2) as $x (0; empty)", "0", "null."},
		{"reduce (1, 2, 3) as $x (0; if $x == 2 then empty else . + $x end)", "0", "3."},
		{"reduce (1, 2) as $x (0; if $x == 2 then empty else . + $x end)", "0", "null."},
		{"reduce (1, 2) as $x (0; (., . + $x, . + $x * 10))", "0", "30."},
		{"reduce (1, error(5)) as $x (0; .)", "0", "!5"}, {"reduce (1, 2) as $x (0; error)", "3", "!0"},
		{"reduce (1, 2) as $x (error(4); .)", "0", "!4"}, {"reduce (1, 2) as $x ((1, error(4)); . + $x)", "0", "4!4"},
		{"reduce (1, 2) as $x (0; (7, error(3)))", "0", "!3"},
		{"reduce .[] as $x (.[0]; [., $x])", "[1,2]", "[[1,1],2]."},
		{"5 as $x | reduce (1, 2) as $x ($x; . + $x)", "0", "8."},
		{"reduce (1, 2) as $x (0; . as $s | $x | $s + .)", "0", "3."},
		{"reduce (1, 2) as $x (0; reduce (10, 20) as $y (.; . + $x * $y))", "0", "90."},
		{"[reduce range(0; 3) as $i ([]; . + [$i, length])]", "0", "[[0,0,1,2,2,4]]."},
	})
}

func TestForeach(t *testing.T) {
	expectAll(t, []sample{
		{"foreach (1, 2, 3) as $x (0; . + $x; .)", "0", "1 3 6."},
		{"foreach (1, 2) as $x (0, 10; . + $x; .)", "0", "1 3 11 13."},
		{"foreach (1, 2) as $x (0; . + $x; ., [$x])", "0", "1 [1] 3 [2]."},
		{"foreach (1, 2) as $x (0; (. + $x, . * 10 + $x); .)", "0", "1 1 3 12."},
		{"foreach (1, 2, 3) as $x (0; if $x == 2 then empty else . + $x end; .)", "0", "1 4."},
		{"foreach (1, 2) as $x (5; empty; error)", "0", "."}, {"foreach (1, 2) as $x (0; . + $x; empty)", "0", "."},
		{"foreach empty as $x (0; error; error)", "0", "."}, {"foreach (1, 2) as $x (empty; error; error)", "0", "."},
		{"foreach (1, error(5)) as $x (0; . + $x; .)", "0", "1!5"}, {"foreach (1, 2) as $x ((0, error(5)); . + $x; .)", "0", "1 3!5"},
		{"foreach (1, 2) as $x (0; if $x == 2 then error(6) else . + $x end; .)", "0", "1!6"},
		{"foreach (1, 2) as $x (0; . + $x; if . == 3 then error(6) else . end)", "0", "1!6"},
		{"5 as $x | foreach (1, 2) as $x ($x; . + $x; [$x, .])", "0", "[1,6] [2,8]."},
		{"foreach (1, 2) as $x (0; . + $x; (., 7)) | . * 2", "0", "2 14 6 14."},
	})
}

func TestNegated(t *testing.T) {
	expectKinds(t, "- .", [7]string{typed, typed, typed, "3.", typed, typed, typed})
	expectAll(t, []sample{
		{"-(1, 2)", "0", "-1 -2."}, {"- - 1", "0", "1."}, {"-empty", "0", "."}, {"-error", "0", "!0"}, {"-(1, \"a\")", "0", "-1" + typed},
		{"-.", "9223372036854775807", "-9223372036854775807."}, {"-.", "-9223372036854775807", "9223372036854775807."},
		{"-.", "-9223372036854775808", `!"overflow"`}, {"-.", "0", "0."}, {"1 - -1", "0", "2."},
	})
}

func TestOperatorsGoFromTheLeft(t *testing.T) {
	expectAll(t, []sample{
		{"(1, 2) + (10, 20)", "0", "11 21 12 22."}, {"(1, 2) * (3, 4)", "0", "3 4 6 8."}, {"(1, 2) < (1, 2)", "0", "false true false false."},
		{"10 - 3 - 2", "0", "5."}, {"100 / 5 / 2", "0", "10."}, {"100 / 7 % 4", "0", "2."}, {"2 + 3 * 4 - 1", "0", "13."},
		{"empty + error", "0", "."}, {"error(1) + error(2)", "0", "!1"}, {"1 + empty", "0", "."}, {"true + empty", "0", "."},
		{"(1, error(5)) + 1", "0", "2!5"}, {"1 + (1, error(5))", "0", "2!5"},
		{". + .", "[1]", "[1,1]."}, {".[0] - .[1]", "[5,3]", "2."},
	})
}

func TestSums(t *testing.T) {
	expectKinds(t, ". + null", [7]string{"null.", "false.", "true.", "-3.", `"é,a".`, "[2,1].", `{"a":[2],"b":1}.`})
	expectKinds(t, "null + .", [7]string{"null.", "false.", "true.", "-3.", `"é,a".`, "[2,1].", `{"a":[2],"b":1}.`})
	expectKinds(t, ". + true", [7]string{"true.", typed, typed, typed, typed, typed, typed})
	expectKinds(t, ". + 1", [7]string{"1.", typed, typed, "-2.", typed, typed, typed})
	expectKinds(t, `. + "x"`, [7]string{`"x".`, typed, typed, typed, `"é,ax".`, typed, typed})
	expectKinds(t, ". + [1]", [7]string{"[1].", typed, typed, typed, typed, "[2,1,1].", typed})
	expectKinds(t, ". + {b: 2, c: 3}", [7]string{`{"b":2,"c":3}.`, typed, typed, typed, typed, typed, `{"a":[2],"b":2,"c":3}.`})
	expectAll(t, []sample{
		{"{b: 2, c: 3} + .", `{"a":1,"b":1}`, `{"a":1,"b":1,"c":3}.`}, {"{} + {}", "0", "{}."}, {"[] + []", "0", "[]."}, {`"" + ""`, "0", `"".`},
		{"{a: {b: 1}} + {a: {c: 2}}", "0", `{"a":{"c":2}}.`}, {"{a: 1} + {a: null}", "0", `{"a":null}.`},
		{". as $x | . + [1], . + [2], $x", "[0]", "[0,1] [0,2] [0]."},
		{". as $x | . + {a: 1}, . + {a: 2}, $x", `{"a":0}`, `{"a":1} {"a":2} {"a":0}.`},
	})
}

func TestDifferences(t *testing.T) {
	expectKinds(t, ". - 1", [7]string{typed, typed, typed, "-4.", typed, typed, typed})
	expectKinds(t, ". - null", [7]string{typed, typed, typed, typed, typed, typed, typed})
	expectKinds(t, `. - "a"`, [7]string{typed, typed, typed, typed, typed, typed, typed})
	expectKinds(t, ". - [1]", [7]string{typed, typed, typed, typed, typed, "[2].", typed})
	expectKinds(t, ". - {}", [7]string{typed, typed, typed, typed, typed, typed, typed})
	expectAll(t, []sample{
		{"[1, 2, 1, 3, 2] - [1]", "0", "[2,3,2]."}, {"[3, 1, 2, 1] - [2, 9]", "0", "[3,1,1]."}, {"[1] - []", "0", "[1]."}, {"[] - [1]", "0", "[]."}, {"[1, 1] - [1]", "0", "[]."},
		{`[[1], {a: 1}, "1", null, false, 1] - [{a: 1}, null, [1]]`, "0", `["1",false,1].`},
		{`[1, "1", [1], {a: 1, b: 2}] - ["1", [1, 1], {b: 2, a: 1}, true, 2]`, "0", "[1,[1]]."},
	})
}

func TestProducts(t *testing.T) {
	for _, op := range []string{"*", "/", "%"} {
		expectKinds(t, ". "+op+" null", [7]string{typed, typed, typed, typed, typed, typed, typed})
		expectKinds(t, "null "+op+" .", [7]string{typed, typed, typed, typed, typed, typed, typed})
		expectKinds(t, ". "+op+" \"a\"", [7]string{typed, typed, typed, typed, typed, typed, typed})
		expectKinds(t, ". "+op+" [1]", [7]string{typed, typed, typed, typed, typed, typed, typed})
		expectKinds(t, ". "+op+" {}", [7]string{typed, typed, typed, typed, typed, typed, typed})
	}
	expectKinds(t, ". * 2", [7]string{typed, typed, typed, "-6.", typed, typed, typed})
	expectKinds(t, ". / 2", [7]string{typed, typed, typed, "-1.", typed, typed, typed})
	expectKinds(t, ". % 2", [7]string{typed, typed, typed, "-1.", typed, typed, typed})
	expectKinds(t, ". / 0", [7]string{typed, typed, typed, `!"zero"`, typed, typed, typed})
	expectKinds(t, ". % 0", [7]string{typed, typed, typed, `!"zero"`, typed, typed, typed})
	expectAll(t, []sample{
		{"7 / 2, -7 / 2, 7 / -2, -7 / -2, 6 / 2, 1 / 2, 0 / 5", "0", "3 -3 -3 3 3 0 0."},
		{"7 % 2, -7 % 2, 7 % -2, -7 % -2, 6 % 2, 1 % 2, 0 % 5", "0", "1 -1 1 -1 0 1 0."},
		{"0 / 0", "0", `!"zero"`}, {"0 % 0", "0", `!"zero"`}, {"0 * 0, 3 * -4", "0", "0 -12."},
	})
}

func TestNumbersAtTheirBounds(t *testing.T) {
	const over = `!"overflow"`
	const least, greatest = "-9223372036854775808", "9223372036854775807"
	expectAll(t, []sample{
		{". + 0, . - 0, . * 1, . / 1, . % 1", greatest, "9223372036854775807 9223372036854775807 9223372036854775807 9223372036854775807 0."},
		{". + 0, . - 0, . * 1, . / 1, . % 1", least, "-9223372036854775808 -9223372036854775808 -9223372036854775808 -9223372036854775808 0."},
		{". + 1", greatest, over}, {". + -1", greatest, "9223372036854775806."}, {". - -1", greatest, over}, {". - .", greatest, "0."}, {". + .", greatest, over},
		{". - 1", least, over}, {". + -1", least, over}, {". + 1", least, "-9223372036854775807."}, {". - .", least, "0."}, {". + .", least, over},
		{"-1 - .", greatest, "-9223372036854775808."}, {"-2 - .", greatest, over}, {"0 - .", least, over}, {"-1 - .", least, "9223372036854775807."},
		{". * -1", least, over}, {"-1 * .", least, over}, {". * -1, -1 * .", greatest, "-9223372036854775807 -9223372036854775807."},
		{". * 2", greatest, over}, {". * 2", least, over}, {". * 0", least, "0."}, {"0 * .", least, "0."}, {". * .", least, over}, {". * .", greatest, over},
		{". * 2", "4611686018427387903", "9223372036854775806."}, {". * 2", "4611686018427387904", over}, {". * -2", "4611686018427387904", "-9223372036854775808."}, {". * 2", "-4611686018427387904", "-9223372036854775808."}, {". * 2", "-4611686018427387905", over},
		{". * .", "3037000499", "9223372030926249001."}, {". * .", "3037000500", over}, {". * .", "-3037000500", over}, {". * 4294967296", "4294967296", over},
		{". / -1", least, over}, {". / -1", greatest, "-9223372036854775807."}, {". % -1", least, "0."}, {". / .", least, "1."}, {". / 2, . % 10", least, "-4611686018427387904 -8."}, {". / 0", least, `!"zero"`}, {". % 0", least, `!"zero"`},
		{"try (. + 1) catch .", greatest, `"overflow".`},
	})
}

// TestOrder holds each value of a rising list against each other one.
func TestOrder(t *testing.T) {
	rising := []string{
		"null", "false", "true", "-9223372036854775808", "-1", "0", "2", "10", "9223372036854775807",
		`""`, `"\u0000"`, `"A"`, `"B"`, `"a"`, `"a\u0000"`, `"aa"`, `"b"`, `"é"`, `"\uffff"`, `"😀"`,
		"[]", "[null]", "[null,null]", "[false]", "[0]", "[0,0]", "[0,1]", "[1]", "[1,[]]", "[[]]", "[[],0]", "[[0]]", "[{}]",
		"{}", `{"a":1}`, `{"a":2}`, `{"a":{}}`, `{"a":0,"b":0}`, `{"a":0,"b":9}`, `{"a":1,"b":0}`, `{"a":0,"b":0,"c":0}`, `{"a":0,"c":0}`, `{"b":0}`, `{"é":0}`,
	}
	truth := func(b bool) string {
		if b {
			return "true"
		}
		return "false"
	}
	for i, x := range rising {
		for j, y := range rising {
			want := strings.Join([]string{truth(i == j), truth(i != j), truth(i < j), truth(i <= j), truth(i > j), truth(i >= j)}, " ") + "."
			expect(t, ".[0] == .[1], .[0] != .[1], .[0] < .[1], .[0] <= .[1], .[0] > .[1], .[0] >= .[1]", "["+x+","+y+"]", 9, 0, want)
		}
	}
	expect(t, "reverse | sort", "["+strings.Join(rising, ",")+"]", 9, 0, "["+strings.ReplaceAll(strings.Join(rising, ","), "\\uffff", "\uffff")+"].")
}
