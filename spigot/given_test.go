package spigot

import (
	"strings"
	"testing"
)

func TestEmptyAndError(t *testing.T) {
	expectKinds(t, "empty", [7]string{".", ".", ".", ".", ".", ".", "."})
	expectKinds(t, "error", [7]string{"!null", "!false", "!true", "!-3", `!"é,a"`, "![2,1]", `!{"a":[2],"b":1}`})
	expectAll(t, []sample{
		{"error(1)", "0", "!1"}, {"error(1, 2)", "0", "!1"}, {"error(empty)", "0", "."}, {"error(.a)", `{"a":[1]}`, "![1]"},
		{"error(error(3))", "0", "!3"}, {"error(1, error(2))", "0", "!1"}, {"1, error(empty), 2", "0", "1 2."}, {"error(null)", "0", "!null"},
	})
}

func TestNotAndType(t *testing.T) {
	expectKinds(t, "not", [7]string{"true.", "true.", "false.", "false.", "false.", "false.", "false."})
	expectKinds(t, "type", [7]string{`"null".`, `"boolean".`, `"boolean".`, `"number".`, `"string".`, `"array".`, `"object".`})
	expectAll(t, []sample{{`0, "", [], {} | not`, "0", "false false false false."}})
}

func TestLength(t *testing.T) {
	expectKinds(t, "length", [7]string{"0.", typed, typed, "3.", "3.", "2.", "2."})
	expectAll(t, []sample{
		{"length", `"\u0000é€😀"`, "4."}, {"length", `""`, "0."}, {"length", "[]", "0."}, {"length", "{}", "0."}, {"length", "0", "0."}, {"length", "7", "7."},
		{"length", "9223372036854775807", "9223372036854775807."}, {"length", "-9223372036854775807", "9223372036854775807."}, {"length", "-9223372036854775808", `!"overflow"`},
	})
}

func TestKeys(t *testing.T) {
	expectKinds(t, "keys", [7]string{typed, typed, typed, typed, typed, "[0,1].", `["a","b"].`})
	expectAll(t, []sample{
		{"keys", "[]", "[]."}, {"keys", "{}", "[]."}, {"keys", `{"é":1,"b":2,"a":3,"":4,"B":5,"aa":6}`, `["","B","a","aa","b","é"].`}, {"keys", "[null,null,null]", "[0,1,2]."},
	})
}

func TestHas(t *testing.T) {
	expectKinds(t, `has("a")`, [7]string{typed, typed, typed, typed, typed, typed, "true."})
	expectKinds(t, "has(0)", [7]string{typed, typed, typed, typed, typed, "true.", typed})
	expectKinds(t, "has(null)", [7]string{typed, typed, typed, typed, typed, typed, typed})
	expectKinds(t, "has([0])", [7]string{typed, typed, typed, typed, typed, typed, typed})
	expectKinds(t, "has(empty)", [7]string{".", ".", ".", ".", ".", ".", "."})
	expectAll(t, []sample{
		{"has(-1, 0, 1, 2, 3)", "[null,false]", "false true true false false."}, {"has(0)", "[]", "false."},
		{`has("a", "b", "")`, `{"a":null}`, "true false false."}, {"has(.a)", `{"a":"a"}`, "true."},
		{`has(0, "a")`, "[1]", "true" + typed}, {`has("a", error(3))`, "{}", "false!3"},
		{"has(length)", "[1]", "false."}, {". as $n | [1] | has($n)", "9223372036854775807", "false."}, {". as $n | [1] | has($n)", "-9223372036854775808", "false."},
	})
}

func TestAdd(t *testing.T) {
	expectKinds(t, "add", [7]string{typed, typed, typed, typed, typed, "3.", typed})
	expectAll(t, []sample{
		{"add", "[]", "null."}, {"add", "{}", "null."}, {"add", "[null,null]", "null."}, {"add", "[true]", "true."}, {"add", "[true,true]", typed}, {"add", "[null,false,null]", "false."},
		{"add", "[1,null,2]", "3."}, {"add", `["a","b"]`, `"ab".`}, {"add", "[[1],[],[2,3]]", "[1,2,3]."}, {"add", `[{"a":1},{"b":2},{"a":3}]`, `{"a":3,"b":2}.`},
		{"add", `{"b":"x","a":"y"}`, `"yx".`}, {"add", `[1,"a"]`, typed}, {"add", `{"a":1,"b":2}`, "3."},
		{"add", "[9223372036854775807,1,-1]", `!"overflow"`}, {"add", "[9223372036854775807,-1,1]", "9223372036854775807."}, {"add", `[9223372036854775807,1,"a"]`, `!"overflow"`},
	})
}

func TestTexts(t *testing.T) {
	expectKinds(t, "tostring", [7]string{`"null".`, `"false".`, `"true".`, `"-3".`, `"é,a".`, `"[2,1]".`, `"{\"a\":[2],\"b\":1}".`})
	expectKinds(t, "tojson", [7]string{`"null".`, `"false".`, `"true".`, `"-3".`, `"\"é,a\"".`, `"[2,1]".`, `"{\"a\":[2],\"b\":1}".`})
	expectKinds(t, "fromjson", [7]string{typed, typed, typed, typed, `!"text"`, typed, typed})
	expectKinds(t, "tojson | fromjson", [7]string{"null.", "false.", "true.", "-3.", `"é,a".`, "[2,1].", `{"a":[2],"b":1}.`})
	expectAll(t, []sample{
		{"fromjson", `" {\"b\":1, \"a\":[ ] } "`, `{"a":[],"b":1}.`}, {"fromjson", `"\"\\u0041\""`, `"A".`}, {"fromjson", `"-0"`, "0."},
		{"fromjson", `""`, `!"text"`}, {"fromjson", `"[1,]"`, `!"text"`}, {"fromjson", `"1 2"`, `!"text"`}, {"fromjson", `"9223372036854775808"`, `!"text"`}, {"fromjson", `"1.5"`, `!"text"`}, {"fromjson", `"\"\\ud800\""`, `!"text"`},
		{"fromjson", `"` + strings.Repeat("[", 64) + strings.Repeat("]", 64) + `"`, strings.Repeat("[", 64) + strings.Repeat("]", 64) + "."},
		{"fromjson", `"` + strings.Repeat("[", 65) + strings.Repeat("]", 65) + `"`, `!"text"`},
		{"[.] | tojson | length", strings.Repeat("[", 64) + strings.Repeat("]", 64), "130."},
		{"[.] | tojson | fromjson", strings.Repeat("[", 64) + strings.Repeat("]", 64), `!"text"`},
		{"tojson | tojson", `"\u0001\""`, `"\"\\\"\\\\u0001\\\\\\\"\\\"\"".`},
	})
}

func TestSortAndReverse(t *testing.T) {
	expectKinds(t, "sort", [7]string{typed, typed, typed, typed, typed, "[1,2].", typed})
	expectKinds(t, "reverse", [7]string{typed, typed, typed, typed, typed, "[1,2].", typed})
	expectAll(t, []sample{
		{"sort", "[]", "[]."}, {"reverse", "[]", "[]."}, {"reverse", "[1,[2,3],null]", "[null,[2,3],1]."},
		{"sort", `[{"a":1},[],"b","a",10,9,true,false,null,1,"a"]`, `[null,false,true,1,9,10,"a","a","b",[],{"a":1}].`},
		{"[., sort, reverse, .]", "[3,1,2]", "[[3,1,2],[1,2,3],[2,1,3],[3,1,2]]."},
	})
}

func TestExplodeAndImplode(t *testing.T) {
	expectKinds(t, "explode", [7]string{typed, typed, typed, typed, "[233,44,97].", typed, typed})
	expectKinds(t, "implode", [7]string{typed, typed, typed, typed, typed, `"\u0002\u0001".`, typed})
	expectAll(t, []sample{
		{"explode", `"\u0000a€😀"`, "[0,97,8364,128512]."}, {"explode", `""`, "[]."}, {"implode", "[]", `"".`}, {"explode | implode", `"é😀\n"`, `"é😀\n".`},
		{"implode", "[0,55295,57344,1114111]", "\"\\u0000\ud7ff\ue000\U0010ffff\"."},
		{"implode", "[55296]", typed}, {"implode", "[57343]", typed}, {"implode", "[1114112]", typed}, {"implode", "[-1]", typed}, {"implode", "[4294967393]", typed}, {"implode", "[9223372036854775807]", typed}, {"implode", "[-9223372036854775808]", typed},
		{"implode", `["a"]`, typed}, {"implode", "[97,null]", typed}, {"implode", "[[97]]", typed},
	})
}

func TestSplit(t *testing.T) {
	expectKinds(t, `split(",")`, [7]string{typed, typed, typed, typed, `["é","a"].`, typed, typed})
	expectKinds(t, "split(1)", [7]string{typed, typed, typed, typed, typed, typed, typed})
	expectKinds(t, "split(null)", [7]string{typed, typed, typed, typed, typed, typed, typed})
	expectAll(t, []sample{
		{`split(",")`, `"a,b,,c,"`, `["a","b","","c",""].`}, {`split(",")`, `",a"`, `["","a"].`}, {`split(",")`, `","`, `["",""].`}, {`split(",")`, `"abc"`, `["abc"].`},
		{`split("")`, `"aé😀"`, `["a","é","😀"].`}, {`split("")`, `""`, "[]."}, {`split("x")`, `""`, "[]."}, {`split("abc")`, `"ab"`, `["ab"].`},
		{`split("aa")`, `"aaaaa"`, `["","","a"].`}, {`split(", ")`, `"a, b,c"`, `["a","b,c"].`}, {`split("é")`, `"xéyéé"`, `["x","y","",""].`},
		{`split(",", "", "b")`, `"a,b"`, `["a","b"] ["a",",","b"] ["a,",""].`}, {`split(empty)`, `"a"`, "."}, {`split(",", 1)`, `"a"`, `["a"]` + typed}, {`split(error(2))`, `"a"`, "!2"}, {"split(.)", `"a"`, `["",""].`},
	})
}

func TestJoin(t *testing.T) {
	expectKinds(t, `join(",")`, [7]string{typed, typed, typed, typed, typed, typed, typed})
	expectAll(t, []sample{
		{`join(",")`, `["a","b","c"]`, `"a,b,c".`}, {`join(",")`, `["a"]`, `"a".`}, {`join(",")`, "[]", `"".`}, {`join("")`, `["a","b"]`, `"ab".`}, {`join(", ")`, `["",""]`, `", ".`},
		{`join("-", "", "é")`, `["a","b"]`, `"a-b" "ab" "aéb".`}, {"join(empty)", `["a"]`, "."}, {"join(1)", `["a"]`, typed}, {"join(null)", "[]", typed}, {`join("-", 1)`, `["a","b"]`, `"a-b"` + typed},
		{`join(",")`, `["a",null]`, typed}, {`join(",")`, `["a",1]`, typed}, {`join(",")`, `[["a"]]`, typed}, {`join(",")`, `{"a":"b"}`, typed}, {"join(.[0])", `["a","b"]`, `"aab".`}, {"join(error(2))", "[]", "!2"},
	})
}

func TestRange(t *testing.T) {
	expectKinds(t, "range(.; 0)", [7]string{typed, typed, typed, "-3 -2 -1.", typed, typed, typed})
	expectKinds(t, "range(-5; .)", [7]string{typed, typed, typed, "-5 -4.", typed, typed, typed})
	expectAll(t, []sample{
		{"range(0; 3)", "9", "0 1 2."}, {"range(2; 2), range(3; 2)", "9", "."}, {"[range(0, 1; 3, 2)]", "9", "[0,1,2,0,1,1,2,1]."},
		{"range(empty; 1), range(1; empty)", "9", "."}, {"range(0; (2, error(5)))", "9", "0 1!5"}, {"range((0, error(5)); 1)", "9", "0!5"}, {`range(0; (1, "a"))`, "9", "0" + typed},
		{"range(. - 2; .)", "9223372036854775807", "9223372036854775805 9223372036854775806."}, {"[limit(2; range(.; 0))]", "-9223372036854775808", "[-9223372036854775808,-9223372036854775807]."},
		{"range(.; .)", "9223372036854775807", "."}, {"[range(0; 100000)] | length, add", "0", "100000 4999950000."},
	})
}

func TestFirstAndLimit(t *testing.T) {
	expectKinds(t, "first(.[]?)", [7]string{".", ".", ".", ".", ".", "2.", "[2]."})
	expectKinds(t, "limit(.; 1, 2)", [7]string{typed, typed, typed, ".", typed, typed, typed})
	expectAll(t, []sample{
		{"first(1, 2)", "0", "1."}, {"first(empty)", "0", "."}, {"first(empty, 5, 6)", "0", "5."}, {"first(error(3))", "0", "!3"}, {"first(empty, error(3))", "0", "!3"}, {"first(first(1, 2), 3)", "0", "1."},
		{"limit(2; 1, 2, 3)", "0", "1 2."}, {"limit(3; 1, 2, 3)", "0", "1 2 3."}, {"limit(4; 1, 2, 3)", "0", "1 2 3."}, {"limit(1; empty)", "0", "."}, {"limit(0; 1), limit(-1; 1)", "0", "."},
		{"limit(1, 2; 7, 8)", "0", "7 7 8."}, {"limit(2, 0, 1; 7, 8)", "0", "7 8 7."}, {"limit(empty; error)", "0", "."}, {"limit(error(4); 1)", "0", "!4"}, {"limit((1, error(4)); 7, 8)", "0", "7!4"}, {`limit((1, "a"); 7, 8)`, "0", "7" + typed},
		{"limit(3; 1, error(2), 3)", "0", "1!2"}, {"limit(.[0]; .[])", "[2,3,4]", "2 3."}, {"[limit(3; limit(5; 1, 2, 3, 4))]", "0", "[1,2,3]."}, {"limit(.; 1, 2)", "9223372036854775807", "1 2."}, {"limit(.; error)", "-9223372036854775808", "."},
	})
}

func TestDefinitionsThatThereAre(t *testing.T) {
	expectKinds(t, "map(1)", [7]string{typed, typed, typed, typed, typed, "[1,1].", "[1,1]."})
	expectKinds(t, "select(.)", [7]string{".", ".", "true.", "-3.", `"é,a".`, "[2,1].", `{"a":[2],"b":1}.`})
	expectKinds(t, "[recurse(.[]?)] | length", [7]string{"1.", "1.", "1.", "1.", "1.", "3.", "4."})
	expectKinds(t, "isvalid(.[])", [7]string{"false.", "false.", "false.", "false.", "false.", "true true.", "true true."})
	expectKinds(t, "last(.[]?)", [7]string{"null.", "null.", "null.", "null.", "null.", "1.", "1."})
	expectAll(t, []sample{
		{"map(. + 1)", "[1,2]", "[2,3]."}, {"map(., 0)", "[1,2]", "[1,0,2,0]."}, {"map(empty)", "[1,2]", "[]."}, {"map(error)", "[1,2]", "!1"}, {"map(.)", `{"b":1,"a":2}`, "[2,1]."}, {"map(map(. * 2))", "[[1],[2,3]]", "[[2],[4,6]]."},
		{"select(. > 1)", "2", "2."}, {"select(. > 1)", "1", "."}, {"select(true, false, true)", "5", "5 5."}, {"select(empty)", "5", "."}, {"select(error(3))", "5", "!3"}, {"[.[] | select(. % 2 == 0)]", "[1,2,3,4]", "[2,4]."},
		{"[recurse(if . < 3 then . + 1 else empty end)]", "0", "[0,1,2,3]."}, {"[recurse(.[])]", "[[1],2]", typed}, {"[recurse(.[]?)]", "[[1],2]", "[[[1],2],[1],1,2]."}, {"recurse(empty)", "1", "1."}, {"recurse(error(2))", "1", "1!2"},
		{"until(. > 100; . * 2)", "1", "128."}, {"until(true; error)", "1", "1."}, {"limit(3; until((true, false, true); . + 1))", "0", "0 1 2."}, {"until(. > 2; . + 1, . + 2)", "0", "3 4 3 3 4."},
		{"limit(4; repeat(. * 2))", "1", "1 2 4 8."}, {"repeat(empty)", "1", "1."}, {"limit(5; repeat(1, 2))", "0", "0 1 1 1 1."},
		{"[while(. < 10; . * 2)]", "1", "[1,2,4,8]."}, {"while(false; error)", "1", "."}, {"while(. < 3; . + 1, . + 2)", "1", "1 2."},
		{"isvalid(error), isvalid(1), isvalid(empty), isvalid(1, 2), isvalid(1, error)", "0", "false true true true true false."},
		{"last(1, 2, 3), last(empty), last(null), last(1, empty)", "0", "3 null null 1."}, {"last(1, error(2))", "0", "!2"},
	})
}

// TestNamesHaveANumberOfParameters: each filter that there is, with one
// parameter more or fewer.
func TestNamesHaveANumberOfParameters(t *testing.T) {
	for _, f := range []string{
		"empty(1)", "error(1; 2)", "not(1)", "type(1)", "length(1)", "keys(1)", "has", "has(1; 2)", "add(1)", "tostring(1)", "tojson(1)", "fromjson(1)", "sort(1)", "reverse(1)",
		"explode(1)", "implode(1)", "split", "split(1; 2)", "join", "join(1; 2)", "range", "range(1)", "range(1; 2; 3)", "first", "first(1; 2)", "limit", "limit(1)", "path", "path(1; 2)",
		"getpath", "getpath(1; 2)", "setpath", "setpath(1)", "delpath", "delpath(1; 2)", "map", "select", "recurse", "until(1)", "repeat", "while(1)", "isvalid", "last",
	} {
		expect(t, f, "0", 1, 1, "no filter or no input")
	}
}
