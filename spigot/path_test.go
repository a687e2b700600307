package spigot

import "testing"

const pathed = `!"path"`

func TestPathsOfFiltersThatHaveThem(t *testing.T) {
	expectKinds(t, "path(.)", [7]string{"[].", "[].", "[].", "[].", "[].", "[].", "[]."})
	expectKinds(t, "path(..)", [7]string{"[].", "[].", "[].", "[].", "[].", "[] [0] [1].", `[] ["a"] ["a",0] ["b"].`})
	expectKinds(t, "path(.[])", [7]string{typed, typed, typed, typed, typed, "[0] [1].", `["a"] ["b"].`})
	expectKinds(t, "path(.a)", [7]string{`["a"].`, typed, typed, typed, typed, typed, `["a"].`})
	expectKinds(t, "path(.[-1])", [7]string{"[-1].", typed, typed, typed, typed, "[-1].", typed})
	expectKinds(t, "path(.[null])", [7]string{typed, typed, typed, typed, typed, typed, typed})
	expectAll(t, []sample{
		{"path(.a.b, .[\"c\"][-1], .zzz)", `{"a":{"b":1}}`, `["a","b"] ["c",-1] ["zzz"].`}, {"path(.[9], .[-9])", "[1]", "[9] [-9]."}, {"path(.a[.b, .c])", `{"a":[1],"b":0,"c":-1}`, `["a",0] ["a",-1].`}, {"path((.a, .b)[0, 1])", "null", `["a",0] ["a",1] ["b",0] ["b",1].`}, {"path(.[][])", "[[1,2],{\"a\":3}]", `[0,0] [0,1] [1,"a"].`}, {"path(..)", `{"b":[1],"a":{}}`, `[] ["a"] ["b"] ["b",0].`},
		{"path(.a | .b | .[0])", "null", `["a","b",0].`}, {"path(.a, .b | .c, .d)", "null", `["a","c"] ["a","d"] ["b","c"] ["b","d"].`}, {"path((.a, .b) | empty), path(empty | 1)", "null", "."},
		{"path(1 as $x | .[$x])", "null", "[1]."}, {`path(("a", "b") as $x | .[$x], .[$x].c)`, "null", `["a"] ["a","c"] ["b"] ["b","c"].`}, {"path(.a as $x | .b[$x])", `{"a":3}`, `["b",3].`}, {"path((1 + 1) as $x | .)", "0", "[]."},
		{"path(.a // .b)", `{"a":1,"b":2}`, `["a"].`}, {"path(.a // .b)", `{"a":null,"b":2}`, `["b"].`}, {"path(.[] // .z)", `{"a":null,"b":2,"c":false,"d":0}`, `["b"] ["d"].`}, {"path((.a | error) // .b)", "null", `["b"].`}, {"path(1 // .b)", "null", `["b"].`}, {"path(.a // 1)", "null", pathed}, {"path((.a, error, .b) // .c)", `{"a":1,"b":2}`, `["a"].`},
		{"path(if .a then .b else .c end)", `{"a":1}`, `["b"].`}, {"path(if .a == 2 then .b else .c end)", `{"a":1}`, `["c"].`}, {"path(if (1, null) then .b else .c end)", "null", `["b"] ["c"].`}, {"path(if true then 1 else . end)", "0", pathed}, {"path(if 1 + 1 == 2 then . else 1 end)", "0", "[]."},
		{"path(try .a)", "null", `["a"].`}, {"path(try .a)", "1", "."}, {"path(.a?, .[0]?)", "{}", `["a"].`}, {"path(try (.a, error, .b))", "{}", `["a"].`}, {"path(try .a catch .)", "{}", `["a"].`}, {"path(try error catch .)", "{}", pathed}, {"path(try error catch empty)", "{}", "."}, {"path(try (.a, error(1)) catch (empty, .))", "{}", `["a"]` + pathed}, {"path(try error(1) catch error(2))", "{}", "!2"}, {"path(try error(null) catch .a)", "{}", pathed}, {"path(1?), path(try 1 catch empty)", "{}", "."}, {"path(try 1 catch error([.]))", "{}", `!["path"]`},
		{"path(reduce (\"a\", \"b\") as $k (.; .[$k]))", "null", `["a","b"].`}, {"path(reduce empty as $k (.a; error))", "null", `["a"].`}, {"path(reduce (0, 1) as $k ((.a, .b); .[$k]))", "null", `["a",0,1] ["b",0,1].`}, {"path(reduce (0, 1) as $k (.; .a, .[$k]))", "null", "[0,1]."}, {"path(reduce 1 as $x (.; empty))", "0", pathed}, {"path(reduce (1, 2) as $x (.; if $x == 1 then empty else . end))", "0", pathed}, {"path(reduce (1, error(7)) as $x (.; empty))", "0", pathed}, {"path(reduce 1 as $x (0; .))", "0", pathed}, {"path(reduce 1 as $x (.; 1))", "0", pathed}, {"path(reduce .[] as $x (.; .[$x]))", "[0]", `[0].`}, {"path((reduce 1 as $x (.; empty))?), path(reduce empty as $x (empty; .))", "0", "."},
		{"path(foreach (0, 1) as $i (.; .[$i]; .))", "null", "[0] [0,1]."}, {"path(foreach (0, 1) as $i (.; .[$i]; .a, .b))", "null", `[0,"a"] [0,"b"] [0,1,"a"] [0,1,"b"].`}, {"path(foreach (0, 1) as $i (.; empty; .))", "null", "."}, {"path(foreach (0, 1) as $i (0; .; .))", "null", pathed}, {"path(foreach (0, 1) as $i (.; .[$i]; $i))", "null", pathed}, {"path(foreach (0, 1) as $i (.; $i; .))", "null", pathed},
		{"path(label $l | .a, break $l, .b)", "null", `["a"].`}, {"path((label $l | .a, break $l), .c)", "null", `["a"] ["c"].`}, {"label $l | path(.a, break $l, .b)", "null", `["a"].`},
		{"def f: .a; path(f | f)", "null", `["a","a"].`}, {"path(def f: .a, .b; f)", "null", `["a"] ["b"].`}, {"def f(g): .a | g; path(f(.b, .c))", "null", `["a","b"] ["a","c"].`}, {"def f(g): path(g); f(.b), (.a | f(.b))", "null", `["b"] ["b"].`}, {"def f(g): .[g]; path(f(1 + 1))", "null", "[2]."}, {"def f: 1; path(f)", "null", pathed}, {"def f(g): g; path(f(1))", "null", pathed}, {"path(def f: f; f)", "null", "~"},
		{"path(empty)", "null", "."}, {"path(error)", "5", "!5"}, {"path(error(1 + 1))", "5", "!2"}, {"path(error(empty))", "5", "."}, {"path(first(.a, .b))", "null", `["a"].`}, {"path(first(.[], error))", "[1]", "[0]."}, {"path(first(1, .a))", "null", pathed}, {"path(limit(2; .[]))", "[1,2,3]", "[0] [1]."}, {"path(limit(1, 2; .a, .b))", "null", `["a"] ["a"] ["b"].`}, {"path(limit(1 + 1; .a, .b, .c))", "null", `["a"] ["b"].`}, {"path(limit(0; 1))", "null", "."}, {"path(limit(1; 1))", "null", pathed},
		{`path(getpath(["a", 0]) | .b)`, "null", `["a",0,"b"].`}, {`path(.x | getpath(["a"], [], [-1]))`, "null", `["x","a"] ["x"] ["x",-1].`}, {`path(getpath(["a", 0]))`, `{"a":{}}`, typed}, {"path(getpath(1))", "null", typed}, {"path(getpath([null]))", "null", typed}, {`path(getpath(["a", "b"]))`, `{"a":null}`, `["a","b"].`}, {"path(getpath(path(..)))", "[[1]]", "[] [0] [0,0]."},
		{"[path(.[] | select(. > 1))]", "[1,2,3]", "[[1],[2]]."}, {"path(recurse(.[]?))", "[[1]]", "[] [0] [0,0]."}, {"path(until(type == \"number\"; .[0]))", "[[7]]", "[0,0]."}, {"path(limit(3; repeat(.a)))", "null", `[] ["a"] ["a","a"].`}, {"path(while(. != null; .a))", `{"a":{"a":null}}`, `[] ["a"].`}, {"path(map(.))", "[1]", pathed}, {"path(isvalid(.))", "[1]", pathed}, {"path(last(.[]))", "[1]", pathed},
		{"path(.[]) | path(.[])", "[5]", "[0]."}, {"[path(..)] | length", "[[],{}]", "3."}, {"path(.a) as $p | $p | length", "null", "1."}, {"[path(.a), path(.b)] | add", "null", `["a","b"].`},
	})
}

func TestFiltersWithoutPaths(t *testing.T) {
	for _, f := range []string{
		"1", `"a"`, "null", "false", "true", "$x", "[]", "[.]", "{}", "{a: .}", "1 + 1", ". - .", ". * 1", ". / 1", ". % 1", "-.", ". == .", ". != .", ". < .", ". <= .", ". > .", ". >= .", ". and .", ". or .", ". |= 1", ". = 1",
		"not", "type", "length", "tostring", "tojson", "path(.)", "setpath([]; .)", "delpath([])", "range(0; 1)", "([1] | .)", "([] | keys)", "([] | add)", `("1" | fromjson)`, "([] | sort)", "([] | reverse)", `("" | explode)`, "([] | implode)", `("" | split(""))`, `([] | join(""))`, "([] | has(0))",
	} {
		expect(t, "5 as $x | path("+f+")", "3", 9, 50, pathed)
		expect(t, "5 as $x | path(., "+f+", .)", "3", 9, 50, "[]"+pathed)
		expect(t, "5 as $x | path("+f+" | empty)", "3", 9, 50, pathed)
		expect(t, "5 as $x | try path("+f+") catch .", "3", 9, 50, `"path".`)
		expect(t, "5 as $x | ("+f+") |= 1", "3", 9, 50, pathed)
		expect(t, "5 as $x | ("+f+") = 1", "3", 9, 50, pathed)
	}
	expectAll(t, []sample{
		{"path([error(1)])", "0", "!1"}, {"path(1 + error(1))", "0", "!1"}, {"path(range(0; 0), range(1; empty))", "0", "."}, {"path(1 + empty)", "0", "."}, {"path({a: empty})", "0", "."}, {"path(has(0))", "0", typed}, {"path(1 / 0)", "0", `!"zero"`}, {"path(1 | .a)", "0", pathed}, {"path(path(1))", "0", pathed}, {"path(path(empty))", "0", "."},
	})
}

func TestGetpath(t *testing.T) {
	expectKinds(t, "getpath([])", [7]string{"null.", "false.", "true.", "-3.", `"é,a".`, "[2,1].", `{"a":[2],"b":1}.`})
	expectKinds(t, `getpath(["a"])`, [7]string{"null.", typed, typed, typed, typed, typed, "[2]."})
	expectKinds(t, "getpath([1])", [7]string{"null.", typed, typed, typed, typed, "1.", typed})
	for _, bad := range []string{"null", "true", "0", `"a"`, "{}", "[null]", "[true]", "[[]]", "[{}]"} {
		expectKinds(t, "getpath("+bad+")", [7]string{typed, typed, typed, typed, typed, typed, typed})
		expectKinds(t, "setpath("+bad+"; 1)", [7]string{typed, typed, typed, typed, typed, typed, typed})
		expectKinds(t, "delpath("+bad+")", [7]string{typed, typed, typed, typed, typed, typed, typed})
	}
	expectAll(t, []sample{
		{`getpath(["a", 0, "b"])`, `{"a":[{"b":7}]}`, "7."}, {`getpath(["a", -1])`, `{"a":[1,2]}`, "2."}, {`getpath(["x", 0, "b"])`, `{"a":1}`, "null."}, {`getpath([5, "a"])`, "[1]", "null."}, {`getpath(["a", "b"])`, `{"a":1}`, typed}, {`getpath(["a"], ["b"], [])`, `{"a":1}`, `1 null {"a":1}.`}, {"getpath(empty)", "0", "."}, {"getpath([0], error(1))", "[5]", "5!1"}, {"getpath([10001], [99999])", "[1]", "null null."}, {`getpath(["a", null])`, "null", typed}, {`getpath(["a", "b", true])`, "{}", typed},
	})
}

func TestSetpath(t *testing.T) {
	expectKinds(t, "setpath([]; 1)", [7]string{"1.", "1.", "1.", "1.", "1.", "1.", "1."})
	expectKinds(t, `setpath(["a"]; 1)`, [7]string{`{"a":1}.`, typed, typed, typed, typed, typed, `{"a":1,"b":1}.`})
	expectKinds(t, "setpath([1]; 5)", [7]string{"[null,5].", typed, typed, typed, typed, "[2,5].", typed})
	expectKinds(t, "setpath([-1]; 5)", [7]string{typed, typed, typed, typed, typed, "[2,5].", typed})
	expectAll(t, []sample{
		{`setpath(["a", 1, "b"]; 5)`, "null", `{"a":[null,{"b":5}]}.`}, {`setpath(["a", "b"]; 5)`, `{"a":{"c":1},"z":2}`, `{"a":{"b":5,"c":1},"z":2}.`}, {`setpath([0, 0]; 5)`, "[[1,2],3]", "[[5,2],3]."}, {`setpath(["m"]; 5)`, `{"a":1,"z":2}`, `{"a":1,"m":5,"z":2}.`}, {`setpath(["é"]; 5)`, `{"z":2}`, `{"z":2,"é":5}.`}, {`setpath([""]; 5)`, `{"z":2}`, `{"":5,"z":2}.`}, {`setpath(["a", "b"]; 5)`, `{"a":null}`, `{"a":{"b":5}}.`}, {`setpath([0, 1]; 5)`, "[null]", "[[null,5]]."}, {`setpath([0, "b"]; 5)`, "[false]", typed}, {`setpath(["a", 0]; 5)`, `{"a":{}}`, typed},
		{"setpath([-1]; 5), setpath([-2]; 5)", "[1,2]", "[1,5] [5,2]."}, {"setpath([-3]; 5)", "[1,2]", typed}, {"setpath([-1]; 5)", "[]", typed}, {"setpath([-1]; 5)", "null", typed}, {"setpath([0, -1]; 5)", "[null]", typed}, {"setpath([3]; 5)", "[1]", "[1,null,null,5]."}, {"setpath([2]; 5)", "[1,2]", "[1,2,5]."},
		{"setpath([0], [1]; 5, 6)", "[]", "[5] [6] [null,5] [null,6]."}, {"setpath(empty; error), setpath([]; empty)", "0", "."}, {"setpath([0]; (1, error(3)))", "[]", "[1]!3"}, {"setpath((error(4), [0]); 1)", "[]", "!4"}, {"setpath([\"a\"]; .b)", `{"b":[1]}`, `{"a":[1],"b":[1]}.`}, {"setpath([0]; .)", "[1]", "[[1]]."},
		{". as $v | setpath([0]; 9), setpath([\"x\"]?; 9)?, $v", "[1,2]", "[9,2] [1,2]."}, {". as $v | setpath([\"a\", \"b\"]; 9), $v", `{"a":{"b":1}}`, `{"a":{"b":9}} {"a":{"b":1}}.`},
	})
}

func TestPlacesThatAreTooFar(t *testing.T) {
	expectAll(t, []sample{
		{"setpath([10000]; 5) | length, .[10000], .[9999]", "[]", "10001 5 null."}, {"setpath([10000]; 5) | length", "null", "10001."}, {"setpath([10001]; 5)", "[]", typed}, {"setpath([10001]; 5)", "null", typed}, {". as $n | null | setpath([$n]; 5)", "9223372036854775807", typed}, {". as $n | [1] | setpath([$n]; 5)", "-9223372036854775808", typed}, {"setpath([999999999999]; 5)", "null", typed},
		{"setpath([10001, \"a\"]; 5)", "null", typed}, {"setpath([\"a\", 10001]; 5)", "null", typed}, {"setpath([\"a\", 10000]; 5) | .a | length", "null", "10001."},
		// Where the array goes as far, too.
		{"[range(0; 20000)] | setpath([10001]; 5)", "0", typed}, {"[range(0; 20000)] | setpath([10000]; 5) | length, .[9999], .[10000], .[10001], .[-1]", "0", "20000 9999 5 10001 19999."}, {"[range(0; 20000)] | setpath([-1]; 5)", "0", typed}, {"[range(0; 20000)] | setpath([-9999]; 5)", "0", typed}, {"[range(0; 20000)] | setpath([-10000]; 5) | .[10000]", "0", "5."}, {"[range(0; 10001)] | setpath([-1]; 5) | length, .[10000]", "0", "10001 5."}, {"[range(0; 10002)] | setpath([-1]; 5)", "0", typed},
		{".[10000] = 5 | length", "null", "10001."}, {".[10001] = 5", "null", typed}, {".[10001] |= 5", "null", typed}, {".[10000] |= 5 | length", "null", "10001."}, {".[10001] |= empty", "[1]", "[1]."}, {"[range(0; 10003)] | .[10000, 10001] |= .", "0", typed}, {"[range(0; 20000)] | .[-1] |= 5", "0", typed}, {"[range(0; 20000)] | .[15000]", "0", "15000."},
		// Nothing grows where something goes.
		{"[range(0; 20000)] | delpath([10001], [-1], [19999], [20000]) | length", "0", "19999 19999 19999 20000."}, {"[range(0; 20000) | [.]] | delpath([15000, 0]) | .[15000], .[15001]", "0", "[] [15001]."},
	})
}

func TestDelpath(t *testing.T) {
	expectKinds(t, "delpath([])", [7]string{"null.", "null.", "null.", "null.", "null.", "null.", "null."})
	expectKinds(t, `delpath(["a"])`, [7]string{"null.", typed, typed, typed, typed, typed, `{"b":1}.`})
	expectKinds(t, "delpath([0])", [7]string{"null.", typed, typed, typed, typed, "[1].", typed})
	expectKinds(t, "delpath([-9])", [7]string{"null.", typed, typed, typed, typed, "[2,1].", typed})
	expectAll(t, []sample{
		{"delpath([0], [1], [2], [3])", "[1,2,3]", "[2,3] [1,3] [1,2] [1,2,3]."}, {"delpath([-1], [-3], [-4])", "[1,2,3]", "[1,2] [2,3] [1,2,3]."}, {"delpath([0])", "[]", "[]."}, {"delpath([0])", "[null]", "[]."}, {`delpath(["a"])`, `{"a":null}`, "{}."}, {`delpath(["b"])`, `{"a":1}`, `{"a":1}.`},
		{`delpath(["a", 0])`, `{"a":[1,2],"b":3}`, `{"a":[2],"b":3}.`}, {`delpath([1, "a", -1])`, `[0,{"a":[1,2]}]`, `[0,{"a":[1]}].`}, {`delpath(["x", 0])`, "{}", "{}."}, {`delpath(["x", "y", "z"])`, `{"x":null}`, `{"x":null}.`}, {`delpath([5, "a"])`, "[1]", "[1]."}, {`delpath(["a", "b"])`, `{"a":1}`, typed}, {`delpath(["a", "b"])`, `{"a":[1]}`, typed}, {`delpath(["a", "b", "c"])`, `{"a":{"b":1}}`, typed}, {`delpath(["a", "b", 0])`, `{"a":{"b":{}}}`, typed}, {`delpath(["x", null])`, "{}", typed}, {`delpath(["x", [], "y"])`, "{}", typed},
		{"delpath(empty)", "1", "."}, {"delpath([0], error(3))", "[1]", "[]!3"}, {"delpath(path(.[0], .[1]))", "[1,2]", "[2] [1]."}, {". as $v | delpath([0]), delpath([1]), $v", "[1,2,3]", "[2,3] [1,3] [1,2,3]."}, {". as $v | delpath([\"a\", \"b\"]), $v", `{"a":{"b":1,"c":2}}`, `{"a":{"c":2}} {"a":{"b":1,"c":2}}.`},
	})
}

func TestUpdates(t *testing.T) {
	expectKinds(t, ". |= [.]", [7]string{"[null].", "[false].", "[true].", "[-3].", `["é,a"].`, "[[2,1]].", `[{"a":[2],"b":1}].`})
	expectKinds(t, ".[] |= [.]", [7]string{typed, typed, typed, typed, typed, "[[2],[1]].", `{"a":[[2]],"b":[1]}.`})
	expectAll(t, []sample{
		{".a |= . + 1", `{"a":1,"b":5}`, `{"a":2,"b":5}.`}, {".a |= . + 1", "null", `{"a":1}.`}, {".[1] |= 7", "null", "[null,7]."}, {".[-1] |= . * 2", "[1,2]", "[1,4]."}, {".[-1] |= 1", "[]", typed}, {".[-1] |= empty", "[]", "[]."}, {".a |= 1", "[]", typed},
		{".[] |= (. * 2, error)", "[1,2]", "[2,4]."}, {".[] |= empty", "[1,2]", "[1,2]."}, {".[] |= (empty, 5)", "[1,2]", "[5,5]."}, {".[] |= if . == 2 then empty else . + 1 end", "[1,2,3]", "[2,2,4]."}, {".a |= empty", "{}", "{}."}, {".[] |= error", "[1,2]", "!1"}, {".[] |= if . == 2 then error(9) else 5 end", "[1,2]", "!9"}, {".[] |= first(., (def f: f; f))", "[1]", "[1]."}, {".[] |= (def f: f; f)", "[1]", "~"}, {".[] |= (def f: f; f)", "[]", "[]."},
		{"empty |= error", "[1]", "[1]."}, {"error(4) |= 1", "[1]", "!4"}, {"(.[0], error(4)) |= error(5)", "[1]", "!4"}, {"(.[-1], error(4)) |= 1", "[]", "!4"}, {"label $l | (.[0], break $l) |= 1", "[1]", "."}, {"(.[0], (def f: f; f)) |= error(5)", "[1]", "~"}, {"1 |= 2", "0", pathed}, {"(.[0], 1) |= error(3)", "[5]", pathed}, {"(.a | tostring) |= 1", "{}", pathed}, {"1? |= error", "7", "7."},
		{"(.[0], .[0]) |= . + 1", "[1]", "[3]."}, {"(.[0], .[1]) |= 5", "[]", "[5,5]."}, {"(.. | select(. == 1)) |= 9", "[1,[1,2]]", "[9,[9,2]]."}, {"(.a, .a.b) |= 1", "{}", typed}, {"(.a, .a.b) |= {}", "{}", `{"a":{"b":{}}}.`}, {"(.a.b, .a) |= 1", "{}", `{"a":1}.`}, {".. |= [.]", "1", "[1]."}, {"(.a // .b) |= 7", `{"b":1}`, `{"b":7}.`}, {"first(.[]) |= 0", "[5,6]", "[0,6]."}, {`getpath(["a", 0]) |= 3`, "null", `{"a":[3]}.`}, {"(.[] | select(. > 1)) |= -.", "[1,2,3]", "[1,-2,-3]."}, {".a[].b |= . + 1", `{"a":[{"b":1},{"b":2}]}`, `{"a":[{"b":2},{"b":3}]}.`},
		// All paths are those of the value that was there first.
		{"(.[0], (if .[0] == 1 then .[1] else .[2] end)) |= 9", "[1,1,1]", "[9,9,1]."}, {".[.n] |= 5", `{"n":"n","x":1}`, `{"n":5,"x":1}.`}, {"(.n, .[.n]) |= \"x\"", `{"n":"n","x":1}`, `{"n":"x","x":1}.`}, {"3 as $x | .[] |= . + $x", "[1,2]", "[4,5]."}, {". as $v | (.[0] |= 9), $v", "[1]", "[9] [1]."}, {".a |= (.b |= 1)", "null", `{"a":{"b":1}}.`}, {"(.a |= 1) | .a", "null", "1."}, {"1, 2 | . |= . + 1", "0", "2 3."},
	})
}

func TestAssignments(t *testing.T) {
	expectKinds(t, ". = 1", [7]string{"1.", "1.", "1.", "1.", "1.", "1.", "1."})
	expectKinds(t, ".[] = 0", [7]string{typed, typed, typed, typed, typed, "[0,0].", `{"a":0,"b":0}.`})
	expectAll(t, []sample{
		{".a = 1", "null", `{"a":1}.`}, {".[2] = 1", "null", "[null,null,1]."}, {".a = (1, 2)", "{}", `{"a":1} {"a":2}.`}, {"(.a, .b) = (1, 2)", "{}", `{"a":1,"b":1} {"a":2,"b":2}.`}, {".a = .b", `{"b":3}`, `{"a":3,"b":3}.`}, {".[] = .[0]", "[1,2]", "[1,1]."}, {".a = .", `{"b":1}`, `{"a":{"b":1},"b":1}.`}, {"(.a, .b) = 7", "{}", `{"a":7,"b":7}.`}, {".a.b[1] = 5", "null", `{"a":{"b":[null,5]}}.`}, {".. = 1", "[1]", typed}, {"(.a, .a.b) = {}", "null", `{"a":{"b":{}}}.`}, {".[-1] = 5", "[1,2]", "[1,5]."}, {".[-1] = 5", "[]", typed}, {".[-3] = 5", "[1,2]", typed}, {".a = 1", "[]", typed},
		{"empty = 1", "7", "7."}, {"empty = (1, 2)", "7", "7 7."}, {".a = empty", "{}", "."}, {"error = empty", "{}", "."}, {".a = error(3)", "{}", "!3"}, {".a = (1, error(3))", "{}", `{"a":1}!3`}, {"error(4) = error(3)", "{}", "!3"}, {"error(4) = 1", "{}", "!4"}, {"(.a, error(4)) = (1, 2)", "{}", "!4"}, {"1 = 2", "0", pathed}, {"label $l | (.a, break $l) = 1", "{}", "."}, {"label $l | .a = (1, break $l)", "{}", `{"a":1}.`}, {"1? = 2", "7", "7."}, {"first(.[], error) = 0", "[5,6]", "[0,6]."}, {"(.[] | select(. > 1)) = 0", "[1,2,3]", "[1,0,0]."}, {". as $v | (.[0] = 9), $v", "[1]", "[9] [1]."}, {".[.n] = 5", `{"n":"x"}`, `{"n":"x","x":5}.`},
	})
}

// TestPathsLeadToTheValues: what stands at the paths of a filter is what the
// filter gives.
func TestPathsLeadToTheValues(t *testing.T) {
	const input = `{"a":[1,[2,3],{"b":null}],"b":{"a":0,"c":false},"c":"x"}`
	for _, f := range []string{
		".", "..", ".a", ".[]", ".a[]", ".a[0, -1, 7]", ".a, .b | .[]", "(.a, .b)[]", ".b.zzz.y", "if .c then .a else .b end", ".b.c // .c", ".[]?", "..[]?", ".a[1] as $x | .a[$x[0]]", "reduce (1, 0) as $i (.a; .[0], .[$i])", "foreach (\"a\", 1) as $k (.; .[$k]; ., .[0])", "first(..[]?)", "limit(3; ..)", "getpath([\"a\", 1], [\"b\"])", "recurse(.[]?)", ".. | select(. == 2)", "label $l | .. | if . == 3 then ., break $l else . end", "try (.a, .b | .[]) catch empty",
	} {
		expect(t, "([path("+f+")] | length) > 0, [getpath(path("+f+"))] == ["+f+"], [path("+f+") as $p | getpath($p)] == ["+f+"]", input, 9, 50, "true true true.")
	}
}
