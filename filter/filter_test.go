package filter

import (
	"math/rand"
	"strings"
	"testing"

	"spigot/api"
)

// expectPlain asks for a filter's plain form, and for that of its plain form.
func expectPlain(t *testing.T, s, plain string) {
	t.Helper()
	if got, e, at := Pretty(s); got != plain || e != api.OK || at != 0 {
		t.Errorf("Pretty(%q) = %q, %d, %d, want %q", s, got, e, at, plain)
	}
	if got, e, at := Pretty(plain); got != plain || e != api.OK || at != 0 {
		t.Errorf("Pretty(%q) = %q, %d, %d, want the same again", plain, got, e, at)
	}
}

func expectError(t *testing.T, s string, want api.Errno, place int) {
	t.Helper()
	if got, e, at := Pretty(s); got != "" || e != want || at != place {
		t.Errorf("Pretty(%.80q) = %q, %d, %d, want error %d at %d", s, got, e, at, want, place)
	}
}

func expectPlains(t *testing.T, pairs [][2]string) {
	t.Helper()
	for _, p := range pairs {
		expectPlain(t, p[0], p[1])
	}
}

type fault struct {
	text  string
	place int
}

func expectErrors(t *testing.T, want api.Errno, faults []fault) {
	t.Helper()
	for _, f := range faults {
		expectError(t, f.text, want, f.place)
	}
}

func TestEveryRow(t *testing.T) {
	expectPlains(t, [][2]string{
		// filter
		{"def f : 1 ; f", "(def f:1;f)"},
		{"def f ( a ) : a ; f ( 1 )", "(def f(a):a;f(1))"},
		{"def f(a;b;c):a,b,c;f(1;2;3)", "(def f(a;b;c):((a,b),c);f(1;2;3))"},
		{"def f: def g: 1 | 2; g; def h: f; h", "(def f:(def g:(1|2);g);(def h:f;h))"},
		{"(def f: 1; f) | 2", "((def f:1;f)|2)"},
		{"1 | (def f: 1; f | f)", "(1|(def f:1;(f|f)))"},
		// pipe, comma, alt, update
		{"1 | 2", "(1|2)"},
		{"1 , 2", "(1,2)"},
		{"1 // 2", "(1//2)"},
		{"1 |= 2", "(1|=2)"},
		{"1 = 2", "(1=2)"},
		// either, both, compare
		{"1 or 2", "(1 or 2)"},
		{"1 and 2", "(1 and 2)"},
		{"1 == 2", "(1==2)"},
		{"1 != 2", "(1!=2)"},
		{"1 < 2", "(1<2)"},
		{"1 <= 2", "(1<=2)"},
		{"1 > 2", "(1>2)"},
		{"1 >= 2", "(1>=2)"},
		// sum, product, minus
		{"1 + 2", "(1+2)"},
		{"1 - 2", "(1-2)"},
		{"1 * 2", "(1*2)"},
		{"1 / 2", "(1/2)"},
		{"1 % 2", "(1%2)"},
		{"- 1", "(-1)"},
		{"---1", "(-(-(-1)))"},
		// bound
		{"1 as $x | $x", "(1 as $x|$x)"},
		{". as $x | $x", "(.as $x|$x)"},
		{"label $l | 2", "(label $l|2)"},
		{"try 1", "(try 1)"},
		{"try 1 catch 2", "(try 1 catch 2)"},
		{"try . catch .", "(try.catch.)"},
		{"reduce 1 as $x ( 2 ; $x )", "reduce 1 as $x(2;$x)"},
		{"reduce .a[] as $x (def f: 1; f; 2|3)", "reduce.a[]as $x((def f:1;f);(2|3))"},
		{"foreach 1 as $x ( 2 ; $x ; $x )", "foreach 1 as $x(2;$x;$x)"},
		{"foreach .. as $x (1,2; def f: 1; f; 3|4)", "foreach..as $x((1,2);(def f:1;f);(3|4))"},
		{"if 1 then 2 else 3 end", "if 1 then 2 else 3 end"},
		{"if 1,2 then def f: 1; f else 3|4 end", "if(1,2)then(def f:1;f)else(3|4)end"},
		{"if if 1 then 2 else 3 end then 4 else if 5 then 6 else 7 end end", "if if 1 then 2 else 3 end then 4 else if 5 then 6 else 7 end end"},
		// postfix
		{"1 . a . b", "1.a.b"},
		{". [ 0 ] [ ] ? . a ? ?", ".[0][]?.a??"},
		{".a[def f: 1; f]", ".a[(def f:1;f)]"},
		{"[1][0]", "[1][0]"},
		{"[][]", "[][]"},
		{"{}.a", "{}.a"},
		{`"a"["b"]`, `"a"["b"]`},
		{"label $l | break $l.a?", "(label $l|break $l.a?)"},
		{"map(1).a", "map(1).a"},
		{"null.a, true[0], false[]", "((null.a,true[0]),false[])"},
		{"1 as $x | $x.a[$x]", "(1 as $x|$x.a[$x])"},
		// primary
		{" . ", "."},
		{" .. ", ".."},
		{". a", ".a"},
		{"0", "0"},
		{`"a"`, `"a"`},
		{"null", "null"},
		{"false", "false"},
		{"true", "true"},
		{"[ . ]", "[.]"},
		{"[def f: 1; f]", "[(def f:1;f)]"},
		{"[ ]", "[]"},
		{"{ }", "{}"},
		{"( . )", "."},
		{"empty", "empty"},
		{"range ( 1 ; 2 )", "range(1;2)"},
		{"map(def f: 1; f)", "map((def f:1;f))"},
		{"first(1|2)", "first((1|2))"},
		// member
		{"{ a : 1 }", "{a:1}"},
		{`{ "a" : 1 , b : . , ( "c" ) : 2 }`, `{"a":1,b:.,("c"):2}`},
		{"{(def f: 1; f): 1}", "{((def f:1;f)):1}"},
		{"{(1,2): 1 // 2, a: 1 = 2}", "{((1,2)):(1//2),a:(1=2)}"},
		{"{a: 1 as $x | 2, 3}", "{a:(1 as $x|(2,3))}"},
		{"{a: (1 as $x | 2), b: 3}", "{a:(1 as $x|2),b:3}"},
		{"{a: {b: [{}]}}", "{a:{b:[{}]}}"},
	})
}

func TestOrderOfOperators(t *testing.T) {
	expectPlains(t, [][2]string{
		{"1,2,3,4", "(((1,2),3),4)"},
		{"1 or 2 or 3 or 4", "(((1 or 2)or 3)or 4)"},
		{"1 and 2 and 3 and 4", "(((1 and 2)and 3)and 4)"},
		{"1+2-3+4", "(((1+2)-3)+4)"},
		{"1*2/3%4", "(((1*2)/3)%4)"},
		{"1%2/3*4", "(((1%2)/3)*4)"},
		{"1//2//3//4", "(1//(2//(3//4)))"},
		{"1|2|3|4", "(1|(2|(3|4)))"},

		{"1|2,3//4|=5 or 6 and 7==8+9*-0", "(1|(2,(3//(4|=(5 or(6 and(7==(8+(9*(-0))))))))))"},
		{"-0*9+8==7 and 6 or 5=4//3,2|1", "((((((((((-0)*9)+8)==7)and 6)or 5)=4)//3),2)|1)"},
		{"1|2,3|4,5", "(1|((2,3)|(4,5)))"},
		{"1,2//3,4//5,6", "(((1,(2//3)),(4//5)),6)"},
		{"1=2//3|=4//5", "((1=2)//((3|=4)//5))"},
		{"1 or 2=3 or 4", "((1 or 2)=(3 or 4))"},
		{"1 and 2 or 3 and 4", "((1 and 2)or(3 and 4))"},
		{"1==2 and 3<4 or 5>=6", "(((1==2)and(3<4))or(5>=6))"},
		{"1+2<3-4", "((1+2)<(3-4))"},
		{"1-2*3-4/5", "((1-(2*3))-(4/5))"},
		{"-1+-2*-3", "((-1)+((-2)*(-3)))"},
		{"-.a[0]?", "(-.a[0]?)"},

		{"(1,2),(3,4)", "((1,2),(3,4))"},
		{"(1|2)|(3|4)", "((1|2)|(3|4))"},
		{"(1//2)//3", "((1//2)//3)"},
		{"1-(2-3)", "(1-(2-3))"},
		{"(1==2)==(3!=4)", "((1==2)==(3!=4))"},
		{"1=(2=3)", "(1=(2=3))"},
		{"(1|=2)|=3", "((1|=2)|=3)"},
		{"1==2=3==4", "((1==2)=(3==4))"},
		{"1==2 or 3==4 and 5==6", "((1==2)or((3==4)and(5==6)))"},
		{"1=2,3=4|5=6//7=8", "(((1=2),(3=4))|((5=6)//(7=8)))"},
	})
}

func TestNoSecondOfItsKind(t *testing.T) {
	compare := []string{"==", "!=", "<", "<=", ">", ">="}
	for _, a := range compare {
		for _, b := range compare {
			expectError(t, "1 "+a+" 2 "+b+" 3", api.ErrFilter, len("1 "+a+" 2 "))
			expectError(t, "[0|1 "+a+" 2+3 "+b+" 3]", api.ErrFilter, len("[0|1 "+a+" 2+3 "))
		}
	}
	update := []string{"|=", "="}
	for _, a := range update {
		for _, b := range update {
			expectError(t, "1 "+a+" 2 "+b+" 3", api.ErrFilter, len("1 "+a+" 2 "))
			expectError(t, "{a:1 "+a+" 2==3 "+b+" 3}", api.ErrFilter, len("{a:1 "+a+" 2==3 "))
		}
	}
	expectError(t, "1 = 2 == 3 == 4", api.ErrFilter, 11)
	expectError(t, "1 == 2 as $x | 3 == 4 == 5", api.ErrFilter, 22)
}

func TestReachOfAsAndLabel(t *testing.T) {
	expectPlains(t, [][2]string{
		{"1 as $x | . | $x", "(1 as $x|(.|$x))"},
		{"1 as $x | 2 , 3 | $x", "(1 as $x|((2,3)|$x))"},
		{"1 as $x | 2 // 3 = 4 or 5 and 6 < 7 + 8 * $x", "(1 as $x|(2//(3=(4 or(5 and(6<(7+(8*$x))))))))"},
		{"0 , 1 as $x | 2 , 3", "(0,(1 as $x|(2,3)))"},
		{"0 * 1 as $x | 2 + 3 | 4", "(0*(1 as $x|((2+3)|4)))"},
		{"0 or 1 as $x | 2 or 3", "(0 or(1 as $x|(2 or 3)))"},
		{"0 == 1 as $x | 2 == 3", "(0==(1 as $x|(2==3)))"},
		{"0 = 1 as $x | 2 = 3", "(0=(1 as $x|(2=3)))"},
		{"- 1 as $x | 2 , $x", "(-(1 as $x|(2,$x)))"},
		{"1 as $x | 2 as $y | 3 , $x + $y", "(1 as $x|(2 as $y|(3,($x+$y))))"},
		{"(1 as $x | 2) , 3", "((1 as $x|2),3)"},
		{"(1 | 2) as $x | $x", "((1|2)as $x|$x)"},
		{"(1 as $x | $x) as $y | $y", "((1 as $x|$x)as $y|$y)"},
		{"label $l | . | 1 , break $l", "(label $l|(.|(1,break $l)))"},
		{"0 + label $l | 1 , 2 | break $l", "(0+(label $l|((1,2)|break $l)))"},
		{"- label $l | 1 , 2", "(-(label $l|(1,2)))"},
		{"label $a | label $b | break $a , break $b", "(label $a|(label $b|(break $a,break $b)))"},
		{"[1 as $x | 2 , $x] , 3", "([(1 as $x|(2,$x))],3)"},
		{"map(1 as $x | 2 | $x) | 3", "(map((1 as $x|(2|$x)))|3)"},
		{"if label $l | 1 , 2 then 1 as $x | 2 , 3 else 4 end | 5", "(if(label $l|(1,2))then(1 as $x|(2,3))else 4 end|5)"},
		{"def f: 1 as $x | 2 , $x; f , 3", "(def f:(1 as $x|(2,$x));(f,3))"},
		{"try 1 as $x | 2 , $x catch 3 , 4", "((try(1 as $x|(2,$x))catch 3),4)"},
		{"try 1 catch 2 as $x | 3 , $x", "(try 1 catch(2 as $x|(3,$x)))"},
		// Where it can go no further, what it stands in goes on.
		{"1 as $x | 2 == 3 == 4 , 5", "(((1 as $x|(2==3))==4),5)"},
		{"label $l | 1 | 2 = 3 |= 4", "((label $l|(1|(2=3)))|=4)"},
	})
	expectErrors(t, api.ErrFilter, []fault{
		{"1 as $x , 2", 8}, {"1 as $x", 7}, {"1 as | 2", 5}, {"1 as 2 | 3", 5}, {"1 as $x | ", 10},
		{"1 + 2 as | 3", 9}, {"-1 as $x | 2 )", 13}, {"1 as $x | def f: 1; f", 10},
		{"label | 1", 6}, {"label l | 1", 6}, {"label $l , 1", 9}, {"label $l", 8}, {"label $l | def f: 1; f", 11},
		{"1 as $x as $y | 2", 8}, {"{a: 1 as $x | 2, b: 3}", 18}, {"{a: label $l | 2, (3): 3}", 21},
	})
}

func TestTry(t *testing.T) {
	expectPlains(t, [][2]string{
		{"try 1 + 2", "((try 1)+2)"},
		{"try 1 catch 2 + 3", "((try 1 catch 2)+3)"},
		{"1 + try 2 catch 3", "(1+(try 2 catch 3))"},
		{"try - 1 catch - 2", "(try(-1)catch(-2))"},
		{"- try 1", "(-(try 1))"},
		{"try try 1 catch 2", "(try(try 1 catch 2))"},
		{"try try 1 catch 2 catch 3", "(try(try 1 catch 2)catch 3)"},
		{"try 1 catch try 2 catch 3", "(try 1 catch(try 2 catch 3))"},
		{"try (try 1) catch 2", "(try(try 1)catch 2)"},
		{"try reduce 1 as $x (2; 3) catch if 1 then 2 else 3 end", "(try reduce 1 as $x(2;3)catch if 1 then 2 else 3 end)"},
		{"try label $l | 1 | 2", "(try(label $l|(1|2)))"},
		{"try .a?", "(try.a?)"},
		{"(try .a).b", "(try.a).b"},
		{"(try 1)?", "(try 1)?"},
	})
	expectErrors(t, api.ErrFilter, []fault{
		{"try", 3}, {"try | 1", 4}, {"try 1 catch", 11}, {"try 1 catch | 2", 12}, {"1 catch 2", 2},
		{"try 1 catch 2 catch 3", 14}, {"try 1 as $x catch 2", 12}, {"try def f: 1; f", 4},
	})
}

func TestBracketsThatNeedBe(t *testing.T) {
	expectPlains(t, [][2]string{
		{"((((1))))", "1"},
		{"(1)+(2)", "(1+2)"},
		{"(((1)+((2))))", "(1+2)"},
		{"((.a).b)[(0)]", ".a.b[0]"},
		{"(.).a", ".a"},
		{". .a", ".a"},
		{".\n.a .b", ".a.b"},
		{"(. .a)", ".a"},
		{".?.a", ".?.a"},
		{".[0].a", ".[0].a"},
		{"(..).a", "...a"},
		{".. . a", "...a"},
		{"(..)[0]", "..[0]"},
		{"(1).a", "1.a"},
		{"(1+2).a[0][]?", "(1+2).a[0][]?"},
		{"(-1).a", "(-1).a"},
		{"(1|2)?", "(1|2)?"},
		{"(.a?)?", ".a??"},
		{"(1 as $x | 2).a", "(1 as $x|2).a"},
		{"(def f: 1; f).a", "(def f:1;f).a"},
		{"(label $l | 1)[]", "(label $l|1)[]"},
		{"(if 1 then 2 else 3 end).a", "(if 1 then 2 else 3 end).a"},
		{"(if 1 then 2 else 3 end)[0]", "(if 1 then 2 else 3 end)[0]"},
		{"(if 1 then 2 else 3 end)[]", "(if 1 then 2 else 3 end)[]"},
		{"(if 1 then 2 else 3 end)?", "(if 1 then 2 else 3 end)?"},
		{"(if 1 then 2 else 3 end) as $x | $x", "((if 1 then 2 else 3 end)as $x|$x)"},
		{"(reduce 1 as $x (2; 3)).a", "(reduce 1 as $x(2;3)).a"},
		{"(foreach 1 as $x (2; 3; 4))?", "(foreach 1 as $x(2;3;4))?"},
		{"reduce (if 1 then 2 else 3 end) as $x (4; 5)", "reduce(if 1 then 2 else 3 end)as $x(4;5)"},
		{"reduce (reduce 1 as $x (2; 3)) as $x (4; 5)", "reduce(reduce 1 as $x(2;3))as $x(4;5)"},
		{"foreach (foreach 1 as $x (2; 3; 4)) as $x (5; 6; 7)", "foreach(foreach 1 as $x(2;3;4))as $x(5;6;7)"},
		{"(if 1 then 2 else 3 end) + (reduce 1 as $x (2; 3))", "(if 1 then 2 else 3 end+reduce 1 as $x(2;3))"},
		{"-(if 1 then 2 else 3 end)", "(-if 1 then 2 else 3 end)"},
		{"[(if 1 then 2 else 3 end)]", "[if 1 then 2 else 3 end]"},
		{"map((1))", "map(1)"},
		{"map((1,2))", "map((1,2))"},
		{"[(1,2)]", "[(1,2)]"},
		{".[(1,2)]", ".[(1,2)]"},
		{"{((1)):(2)}", "{(1):2}"},
		{"{((1,2)):((3,4))}", "{((1,2)):(3,4)}"},
		{`{("a"):1}`, `{("a"):1}`},
	})
}

func TestBlanks(t *testing.T) {
	expectPlains(t, [][2]string{
		{"\t\r\n .\t\r\n ", "."},
		{".a or .b and .c", "(.a or(.b and.c))"},
		{". or .", "(.or.)"},
		{`"a" or "b"`, `("a"or"b")`},
		{"[] and []", "([]and[])"},
		{"1 and null", "(1 and null)"},
		{`if "a" then "b" else "c" end`, `if"a"then"b"else"c"end`},
		{`"a" as $x | $x or $x`, `("a"as $x|($x or $x))`},
		{"if(1)then[2]else{}end", "if 1 then[2]else{}end"},
		{"try(1)catch(2)", "(try 1 catch 2)"},
		{`try"a"catch"b"`, `(try"a"catch"b")`},
		{"def f(a):a;f(1)or 2", "(def f(a):a;(f(1)or 2))"},
		{"1or 2", "(1 or 2)"},
		{"1and(2)", "(1 and 2)"},
		{"label$l|break$l", "(label $l|break $l)"},
		{"1as$x|$x", "(1 as $x|$x)"},
		{"reduce.as$x(1;2)", "reduce.as $x(1;2)"},
		{"1<2,1<=2,1>2,1>=2", "((((1<2),(1<=2)),(1>2)),(1>=2))"},
		{"-1", "(-1)"},
		{"1 -1", "(1-1)"},
	})
	expectErrors(t, api.ErrFilter, []fault{
		{"\v.", 0}, {".\f", 1}, {". \u00a0", 2}, {"1\x00", 1}, {"\ufeff.", 0}, {". |\u2028", 3},
	})
}

func TestLongestToken(t *testing.T) {
	expectPlains(t, [][2]string{
		{"...a", "...a"},
		{"..,..", "(..,..)"},
		{"1<=2", "(1<=2)"},
		{"1>=2", "(1>=2)"},
		{"1==2", "(1==2)"},
		{"1|=2", "(1|=2)"},
		{"1//2", "(1//2)"},
		{"1/2/3", "((1/2)/3)"},
		{"1---1", "(1-(-(-1)))"},
		{".a??//1", "(.a??//1)"},
		{"def orx: 1; orx or 2", "(def orx:1;(orx or 2))"},
		{"def null1: 1; null1", "(def null1:1;null1)"},
		{"def _: 1; def a_9: 2; _+a_9", "(def _:1;(def a_9:2;(_+a_9)))"},
		{".android.ending", ".android.ending"},
		{"1as $x|1", "(1 as $x|1)"},
	})
	expectErrors(t, api.ErrFilter, []fault{
		{"..a", 2}, {"....", 2}, {". ..", 2}, {"...", 3}, {"... .", 4}, {". . .a", 4}, {".. a", 3},
		{"1<==2", 3}, {"1< =2", 3}, {"1===2", 3}, {"1= =2", 3}, {"1| =2", 3}, {"1||=2", 2}, {"1|==2", 3}, {"1///2", 3}, {"1/ /2", 3},
		{"1=<2", 2}, {"1<>2", 2}, {"1>==2", 3}, {"1!==2", 3}, {"1=!2", 2},
		{"1a", 1}, {"1 a", 2}, {"12.34", 3}, {"1e5", 1}, {".1", 1}, {"1_", 1},
	})
}

func TestBytesThatBeginNoToken(t *testing.T) {
	for c := range 256 {
		s := string([]byte{byte(c)})
		if strings.Contains(" \t\r\n.|,<>=+-*/%?()[]{}:;_0123456789abcdefghijklmnopqrstuvwxyz", s) {
			continue
		}
		for _, ahead := range []string{"", " ", "1 | ", "1", "[.a, "} {
			expectError(t, ahead+s, api.ErrFilter, len(ahead))
			expectError(t, ahead+s+" | 1", api.ErrFilter, len(ahead))
		}
	}
	expectErrors(t, api.ErrFilter, []fault{
		{"$", 0}, {"$ x", 0}, {"1 as $", 5}, {"1 as $ x | 1", 5}, {"$1", 0}, {"$$x", 0}, {"$A", 0}, {"$\"x\"", 0},
		{"1 ! 2", 2}, {"1 !", 2}, {"1 ! = 2", 2}, {"!", 0},
		{"aB", 1}, {".aB", 2}, {"$xY", 2}, {"\u00e9", 0}, {".a\u00e9", 2},
		// The first of them counts, and a token that cannot stand ahead of it.
		{"1 # $", 2}, {"1 2 #", 2}, {") #", 0}, {"1 | | #", 4}, {"# 1 2", 0},
	})
}

func TestStrings(t *testing.T) {
	expectPlains(t, [][2]string{
		{`""`, `""`},
		{`"\u0041\/\u00e9"`, "\"A/\u00e9\""},
		{`"\b\f\n\r\t\"\\\u0000\u001f\u007f"`, `"\b\f\n\r\t\"\\\u0000\u001f` + "\x7f\""},
		{`"\ud83d\ude00"`, "\"\U0001f600\""},
		{"\"\U0001f600\u00e9\"", "\"\U0001f600\u00e9\""},
		{`"# ( | "`, `"# ( | "`},
		{`.["a"]`, `.["a"]`},
		{`.a["b"]["c"].d`, `.a["b"]["c"].d`},
		{`.["\u0061"]`, `.["a"]`},
		{`{"\u0061":"\u0062"}`, `{"a":"b"}`},
		{`{a:1,"a":2}`, `{a:1,"a":2}`},
		{`"a"+"b"`, `("a"+"b")`},
		{`"|"|"as"`, `("|"|"as")`},
	})
	expectErrors(t, api.ErrFilter, []fault{
		{`"`, 0}, {`"abc`, 0}, {`1 + "abc`, 4}, {`"abc\"`, 0}, {`"\x"`, 0}, {`"\u12"`, 0}, {`"\u12g4"`, 0},
		{`"\ud800"`, 0}, {`"\ud800x"`, 0}, {`"\udc00\ud800"`, 0}, {"\"\n\"", 0}, {"\"\x1f\"", 0}, {"\"\xff\"", 0},
		{"\"\xc3\"", 0}, {"\"\xed\xa0\x80\"", 0}, {`"a" "b`, 4}, {`"a" "b"`, 4}, {`"a"b"`, 3}, {`."a"`, 1}, {`.a."b"`, 3},
		{`{"a":"}`, 5}, {`{"a`, 1}, {`'a'`, 0},
	})
}

func TestNumbers(t *testing.T) {
	expectPlains(t, [][2]string{
		{"0", "0"}, {"00", "0"}, {"000000000000000000", "0"}, {"007", "7"}, {"10", "10"}, {"0100", "100"},
		{"123456789012345678", "123456789012345678"},
		{"999999999999999999", "999999999999999999"},
		{"000000000000000001", "1"},
		{"1 + 00", "(1+0)"},
		{".[007]", ".[7]"},
	})
	expectErrors(t, api.ErrFilter, []fault{
		{"1234567890123456789", 0}, {"0000000000000000001", 0}, {"0000000000000000000", 0},
		{"1 + 1000000000000000000", 4}, {".[1234567890123456789]", 2}, {"1 2345678901234567890123", 2},
	})
}

func TestLongNames(t *testing.T) {
	const twenty = "abcdefghij_123456789"
	expectPlains(t, [][2]string{
		{"." + twenty, "." + twenty},
		{"1 as $" + twenty + " | $" + twenty, "(1 as $" + twenty + "|$" + twenty + ")"},
		{"label $" + twenty + " | break $" + twenty, "(label $" + twenty + "|break $" + twenty + ")"},
		{"def " + twenty + "(" + twenty + "): 1; " + twenty + "(2)", "(def " + twenty + "(" + twenty + "):1;" + twenty + "(2))"},
		{"{" + twenty + ": 1}", "{" + twenty + ":1}"},
	})
	expectError(t, twenty, api.ErrName, 0)
	expectError(t, "$"+twenty, api.ErrName, 0)
	const more = twenty + "0"
	expectErrors(t, api.ErrFilter, []fault{
		{more, 0}, {"." + more, 1}, {"1 as $" + more + " | 1", 5}, {"$" + more, 0}, {"label $" + more + " | 1", 6},
		{"def " + more + ": 1; 1", 4}, {"def f(" + more + "): 1; 1", 6}, {"{" + more + ": 1}", 1}, {more + more, 0},
		{"1 | " + strings.Repeat("_", 100), 4},
	})
}

func TestLongTexts(t *testing.T) {
	blanks := strings.Repeat(" ", api.MaxText-1)
	expectPlain(t, blanks+".", ".")
	expectPlain(t, "."+blanks, ".")
	sum := strings.Repeat("1+", 999) + "10"
	if s, e, at := Pretty(sum); s != strings.Repeat("(", 999)+"1"+strings.Repeat("+1)", 998)+"+10)" || e != api.OK || at != 0 {
		t.Error("a sum of 2000 bytes:", s, e, at)
	}
	deep := strings.Repeat("(", 999) + ".." + strings.Repeat(")", 999)
	expectPlain(t, deep, "..")
	arrays := strings.Repeat("[", 1000) + strings.Repeat("]", 1000)
	expectPlain(t, arrays, arrays)
	minus := strings.Repeat("-", 1999) + "1"
	if s, e, at := Pretty(minus); s != strings.Repeat("(-", 1999)+"1"+strings.Repeat(")", 1999) || e != api.OK || at != 0 {
		t.Error("many times minus:", s, e, at)
	}
	long := "." + strings.Repeat("?", 1999)
	expectPlain(t, long, long)

	for _, s := range []string{
		blanks + " .", ". " + blanks, sum + "0", arrays + " ", strings.Repeat("x", 2001), ". . " + blanks, "$y" + blanks,
		strings.Repeat("(", 2001), strings.Repeat(" ", 2001), strings.Repeat("\x00", 1<<20), "1" + strings.Repeat("|1", 1<<20),
	} {
		expectError(t, s, api.ErrFilter, 0)
	}
	expectError(t, blanks+" ", api.ErrFilter, 2000)
	expectError(t, blanks+")", api.ErrFilter, 1999)
	expectError(t, blanks+"x", api.ErrName, 1999)
	expectError(t, strings.Repeat("[", 2000), api.ErrFilter, 2000)
	expectError(t, strings.Repeat("(", 1000)+"."+strings.Repeat("]", 999), api.ErrFilter, 1001)
}

func TestTokensThatCannotStand(t *testing.T) {
	expectErrors(t, api.ErrFilter, []fault{
		{"|", 0}, {", 1", 0}, {"1 | | 2", 4}, {"1 , , 2", 4}, {"1 // // 2", 5}, {"1 + * 2", 4}, {"+ 1", 0}, {"1 or and 2", 5},
		{"1 == = 2", 5}, {"1 |= = 2", 5}, {"not 1", 4}, {"1 not", 2}, {"1 (2)", 2}, {"1 [", 3}, {"1 2", 2}, {". 1", 2}, {"? 1", 0},
		{"(1))", 3}, {"(1]", 2}, {"[1)", 2}, {"()", 1}, {"[,]", 1}, {"[1,]", 3}, {".[1,]", 4}, {".[1;2]", 3}, {"1;2", 1}, {"1:2", 1},
		{"{,}", 1}, {"{a}", 2}, {"{a:}", 3}, {"{a:1 b:2}", 5}, {"{a:1;b:2}", 4}, {"{a:1,}", 5}, {"{a:1|2}", 4}, {"{a 1}", 3},
		{"{.a:1}", 1}, {"{1:1}", 1}, {"{$x:1}", 1}, {"{[]:1}", 1}, {"{(1)}", 4}, {"{(1,2}", 5}, {"{():1}", 2}, {"{a:def f: 1; f}", 3},
		{"{null:1}", 1}, {"{and:1}", 1}, {"{a.b:1}", 2}, {`{"a"."b":1}`, 4}, {"{a:1}}", 5}, {"{a::1}", 3}, {"{-a:1}", 1},
		{"def", 3}, {"def 1: 2; 3", 4}, {"def $f: 2; 3", 4}, {`def "f": 2; 3`, 4}, {"def f 1; 2", 6}, {"def f: ; 2", 7}, {"def f: 1 2", 9},
		{"def f: 1, 2", 11}, {"def f: 1;", 9}, {"def f: 1; ;", 10}, {"def f(): 1; 2", 6}, {"def f(1): 1; 2", 6}, {"def f($a): 1; 2", 6},
		{"def f(a;): 1; 2", 8}, {"def f(a,b): 1; 2", 7}, {"def f(a b): 1; 2", 8}, {"def f(a) 1; 2", 9}, {"def f(and): 1; 2", 6},
		{"1, def f: 1; f", 3}, {"1 + def f: 1; f", 4}, {"- def f: 1; f", 2}, {"def f: 1 | def g: 2; g; f", 11},
		{"if", 2}, {"if 1", 4}, {"if then", 3}, {"if 1 then", 9}, {"if 1 then else 2 end", 10}, {"if 1 then 2", 11}, {"if 1 then 2 end", 12},
		{"if 1 then 2 else end", 17}, {"if 1 then 2 else 3", 18}, {"if 1 else 2 end", 5}, {"if 1 then 2 else 3 end end", 23},
		{"if 1 then 2 else 3 end.a", 22}, {"if 1 then 2 else 3 end[0]", 22}, {"if 1 then 2 else 3 end?", 22}, {"if 1 then 2 else 3 end as $x | 1", 23},
		{"if 1; then 2 else 3 end", 4}, {"if 1 then 2 then 3 else 4 end", 12},
		{"reduce", 6}, {"reduce 1", 8}, {"reduce 1 as", 11}, {"reduce 1 as x", 12}, {"reduce 1 as $x", 14}, {"reduce 1 as $x | 2", 15},
		{"reduce 1 as $x ()", 16}, {"reduce 1 as $x (1)", 17}, {"reduce 1 as $x (1;)", 18}, {"reduce 1 as $x (1;2;3)", 19}, {"reduce 1 as $x (1;2", 19},
		{"reduce 1 as $x (1;2).a", 20}, {"reduce 1 as $x (1;2)?", 20}, {"reduce 1 as $x (1;2) as $y | 3", 21},
		{"reduce 1 + 2 as $x (1;2)", 9}, {"reduce - 1 as $x (1;2)", 7}, {"reduce try 1 as $x (1;2)", 7}, {"reduce if 1 then 2 else 3 end as $x (1;2)", 7},
		{"reduce reduce 1 as $x (1;2) as $x (1;2)", 7}, {"reduce 1 (1;2)", 9}, {"reduce 1 as $x 1;2", 15},
		{"foreach", 7}, {"foreach 1 as $x (1;2)", 20}, {"foreach 1 as $x (1)", 18}, {"foreach 1 as $x (1;2;)", 21}, {"foreach 1 as $x (1;2;3;4)", 22},
		{"foreach 1 as $x (1;2;3).a", 23}, {"foreach -1 as $x (1;2;3)", 8}, {"foreach 1 , 2 as $x (1;2;3)", 10}, {"foreach 1 as $x (1;2;3", 22},
		{"foreach label $l | 1 as $x (1;2;3)", 8}, {"foreach foreach 1 as $x (1;2;3) as $x (1;2;3)", 8},
		{"break", 5}, {"break l", 6}, {"break 1", 6}, {"break | 1", 6}, {"label $l | break $l $l", 20},
		{"map(", 4}, {"map()", 4}, {"map(1", 5}, {"map(1;)", 6}, {"map(;1)", 4}, {"map(1,)", 6}, {"map(1)(2)", 6}, {"map(1]", 5},
		{"$x(1)", 2}, {".a(1)", 2}, {"null(1)", 4}, {"..(1)", 2},
		{".if", 1}, {".a.then", 3}, {"1.null", 2}, {".a.", 3}, {".a. .b", 4}, {".a.[0]", 3}, {".a.?", 3}, {".$x", 1}, {".a.$x", 3},
		{"as", 0}, {"as $x | 1", 0}, {"then", 0}, {"else", 0}, {"end", 0}, {"catch", 0}, {"and", 0}, {"or", 0}, {"1 if", 2}, {"1 null", 2},
	})
}

func TestTextsThatEndTooEarly(t *testing.T) {
	for _, s := range []string{
		"", ". |", "1,", "1 //", "1 |=", "1 =", "1 or", "1 and", "1 ==", "1 +", "1 -", "1 *", "1 /", "1 %", "-", "(", "(1", "[", "[1", "[1,",
		".[", ".[1", ".a.", "{", "{a", `{"a"`, "{(", "{(1", "{(1)", "{a:", "{a:1", "{a:1,", "1 as", "1 as $x", "1 as $x|", "label", "label $l", "label $l|",
		"try", "try 1 catch", "def", "def f", "def f(", "def f(a", "def f(a;", "def f(a;b)", "def f:", "def f:1", "def f:1;",
		"if", "if 1", "if 1 then", "if 1 then 2", "if 1 then 2 else", "if 1 then 2 else 3",
		"reduce", "reduce 1", "reduce 1 as", "reduce 1 as $x", "reduce 1 as $x(", "reduce 1 as $x(1", "reduce 1 as $x(1;", "reduce 1 as $x(1;2",
		"foreach 1 as $x(1;2", "foreach 1 as $x(1;2;", "foreach 1 as $x(1;2;3", "break", "map(", "map(1", "range(1;", "range(1;2",
	} {
		for _, blanks := range []string{"", " ", "\n\t \r"} {
			expectError(t, s+blanks, api.ErrFilter, len(s+blanks))
		}
	}
}

// Words are no names of filters and no NAMEs, but they may stand behind a $.
func TestWords(t *testing.T) {
	words := "def as if then else end try catch reduce foreach label break and or null false true"
	for _, w := range strings.Fields(words) {
		expectError(t, "."+w+" ", api.ErrFilter, wrongBehindPoint(w))
		expectError(t, "1."+w+" ", api.ErrFilter, 2)
		expectError(t, "{"+w+":1}", api.ErrFilter, 1)
		expectError(t, "def "+w+":1;2", api.ErrFilter, 4)
		expectError(t, "def f("+w+"):1;2", api.ErrFilter, 6)
		expectError(t, "def f(a;"+w+"):1;2", api.ErrFilter, 8)
		expectPlain(t, "1 as $"+w+"|$"+w, "(1 as $"+w+"|$"+w+")")
		expectPlain(t, "label $"+w+"|break $"+w, "(label $"+w+"|break $"+w+")")
		expectPlain(t, `{"`+w+`":1}`, `{"`+w+`":1}`)
		expectPlain(t, "."+w+"_", "."+w+"_")
	}
}

// wrongBehindPoint is the place where a point, a word and a blank go wrong:
// behind the point alone some words may stand, and then something is missing.
func wrongBehindPoint(w string) int {
	switch w {
	case "as", "and", "or":
		return len(w) + 2
	}
	return 1
}

func TestGivenFilters(t *testing.T) {
	given := map[string][]int{
		"empty": {0}, "error": {0, 1}, "not": {0}, "type": {0}, "length": {0}, "keys": {0}, "has": {1}, "add": {0}, "tostring": {0},
		"tojson": {0}, "fromjson": {0}, "sort": {0}, "reverse": {0}, "explode": {0}, "implode": {0}, "split": {1}, "join": {1},
		"range": {2}, "first": {1}, "limit": {2}, "path": {1}, "getpath": {1}, "setpath": {2}, "delpath": {1},
		"map": {1}, "select": {1}, "recurse": {1}, "until": {2}, "repeat": {1}, "while": {2}, "isvalid": {1}, "last": {1},
		"f": nil, "values": nil, "any": nil, "to_entries": nil, "input": nil, "keys_unsorted": nil, "min": nil, "floor": nil, "debug": nil, "env": nil,
	}
	calls := []string{"", "(.)", "(.;.)", "(.;.;.)"}
	for name, counts := range given {
		for params, args := range calls {
			known := false
			for _, n := range counts {
				known = known || n == params
			}
			if known {
				expectPlain(t, name+args, name+args)
			} else {
				expectError(t, name+args, api.ErrName, 0)
				expectError(t, "1, "+name+args, api.ErrName, 3)
			}
		}
	}
}

func TestKnownNames(t *testing.T) {
	for _, s := range []string{
		// variables
		"1 as $x|$x", "1 as $x|[{a:$x,($x):1,\"b\":$x}]", "1 as $x|2 as $y|$x+$y", "1 as $x|2 as $x|$x", "1 as $x|$x as $x|$x",
		"1 as $x|.[$x].a[$x]?", "1 as $x|map($x)", "1 as $x|(def f:$x;f)", "1 as $x|(def f(a):$x;f($x))", "1 as $x|-$x", "1 as $x|try $x catch $x",
		"1 as $x|if $x then $x else $x end", "1 as $x|reduce $x as $y($x;$x+$y)", "1 as $x|foreach $x as $y($x;$x;$y)", "1 as $x|label $l|$x",
		"reduce 1 as $x(2;$x)", "foreach 1 as $x(2;$x;$x)", "1 as $x|reduce $x as $x($x;$x)", "reduce 1 as $x(2;3 as $y|$x+$y)",
		// labels
		"label $l|break $l", "label $l|label $m|break $l,break $m", "label $l|label $l|break $l", "label $l|(def f:break $l;f)", "label $l|map(break $l)",
		"label $l|1 as $l|$l,break $l", "1 as $l|label $l|$l,break $l", "label $l|reduce break $l as $x(break $l;break $l)", "label $l|[{(break $l):break $l}]",
		// definitions and parameters
		"def f:f;f", "def f:1;def g:f;f,g", "def f:1;def f:f;f", "def f:def g:f;g;f", "def f(a):a;f(1)", "def f(a):f(a);f(1)", "def f(a;b):a,b,f(b;a);f(1;2)",
		"def f(a;a):a;f(1;2)", "def f(f):f;f(1)", "def f(f):f,f(f);f(1)", "def f:1;def f(a):f,a;f,f(f)", "def f(a):def g:a;g;f(1)", "def f(a):def a:a;a;f(1)",
		"def f(a):def g(b):a,b,f(b),g(a);g(1);f(2)", "def f(a):1 as $x|a;f(1)", "def length(f):f;length(1)+length", "def map:1;map,map(2)", "def empty:1;empty",
		"def f:1;map(f)|[f]|{a:f,(f):f}|.[f]|f[]|f?|if f then f else f end|try f catch f|reduce f as $x(f;f)|foreach f as $x(f;f;f)|-f",
	} {
		if _, e, at := Pretty(s); e != api.OK || at != 0 {
			t.Errorf("Pretty(%q): error %d at %d", s, e, at)
		}
	}
}

func TestUnknownNames(t *testing.T) {
	expectErrors(t, api.ErrName, []fault{
		// variables
		{"$x", 0}, {" $x", 1}, {"1 as $x | $y", 10}, {"$x as $x | 1", 0}, {"(1 as $x | $x), $x", 16}, {"[1 as $x | $x], $x", 16}, {"1 as $x | 2 as $y | $z", 20},
		{"{a: (1 as $x | 1), b: $x}", 22}, {"map(1 as $x | 1), $x", 18}, {"(1 as $x | 1)[$x]", 14}, {"if 1 as $x | 1 then $x else 2 end", 20},
		{"reduce $x as $x (1; 2)", 7}, {"reduce 1 as $x ($x; 2)", 16}, {"reduce 1 as $x (1; 2), $x", 23}, {"reduce 1 as $x (1; $y)", 19},
		{"foreach $x as $x (1; 2; 3)", 8}, {"foreach 1 as $x ($x; 2; 3)", 17}, {"foreach 1 as $x (1; 2; 3), $x", 27}, {"foreach 1 as $x (1; 2; $y)", 23}, {"foreach 1 as $x (1; $y; 2)", 20},
		{"def f: 1 as $x | 1; $x", 20}, {"def f: $x; 1 as $x | f", 7}, {"def x: 1; $x", 10}, {"def f(x): $x; 1", 10}, {"try 1 as $x | 1 catch $x", 22}, {"label $l | $l", 11},
		// labels
		{"break $l", 6}, {"break  $l", 7}, {"(label $l | 1), break $l", 22}, {"label $l | break $m", 17}, {"1 as $l | break $l", 16}, {"break $l, (label $l | 1)", 6},
		{"def f: break $l; label $l | f", 13}, {"def l: break $l; 1", 13}, {"[label $l | 1] | break $l", 23},
		// filters
		{"f", 0}, {"f(1)", 0}, {"1 | f", 4}, {"def f: 1; f(2)", 10}, {"def f(a): 1; f", 13}, {"def f(a): 1; f(1; 2)", 13}, {"def f(a; b): 1; f(1)", 16}, {"def f(a; a): a; f(1)", 16},
		{"def f(a): 1; a", 13}, {"def f(a): a(1); 1", 10}, {"def f: g; def g: 1; f", 7}, {"(def f: 1; f), f", 15}, {"def f: def g: 1; g; g", 20}, {"def f(a): f; 1", 10},
		{"1 as $f | f", 10}, {"label $f | f", 11}, {"def f(a): def g: 1; a; g", 23}, {"[def f: 1; f] | f", 16}, {"map(def f: 1; f) | f", 19},
		{"{f: f}", 4}, {"{(f): 1}", 2}, {".[f]", 2}, {"-f", 1}, {"f?", 0}, {"f.a", 0}, {"f[]", 0}, {"[f]", 1}, {"try f", 4}, {"try 1 catch f", 12}, {"if f then 1 else 2 end", 3},
		{"if 1 then f else 2 end", 10}, {"if 1 then 2 else f end", 17}, {"1 + f", 4}, {"f + 1", 0}, {"map(f)", 4}, {"range(1; f)", 9}, {"label $l | f", 11}, {"1 as $x | f", 10}, {"f as $x | 1", 0},
		{"def g: f; 1", 7}, {"def g: 1; f", 10}, {"{\"f\": f}", 6}, {"reduce 1 as $x (1; f)", 19}, {"foreach 1 as $x (1; 2; f)", 23},
		// the first of several
		{"f, $x, break $l", 0}, {"$x, f, break $l", 0}, {"break $l, $x, f", 6}, {"f($x)", 0}, {"map($x; f)", 0}, {"range($x; f)", 6}, {"$x + f", 0}, {"1 - (2 * (f | $x))", 10},
		{"f[$x]", 0}, {"{(f): $x}", 2}, {"{a: f, b: $x}", 4}, {"{a: 1, b: $x, c: f}", 10}, {"$x as $y | f", 0}, {"try $x catch f", 4}, {"if $x then f else g end", 3}, {"def f: $x; g", 7},
		{"reduce $x as $y (f; g)", 7}, {"reduce 1 as $y (f; g)", 16}, {"foreach 1 as $y (1; f; g)", 20}, {"f // g", 0}, {"1 | 2 // f, g", 9}, {"- $x - f", 2},
	})
}

// What is no filter is told ahead of what is not known, wherever they stand.
func TestWrongBothWays(t *testing.T) {
	expectErrors(t, api.ErrFilter, []fault{
		{"$y )", 3}, {"f |", 3}, {"break $l 1", 9}, {"f(1; $x", 7}, {"nosuch #", 7}, {"$x \"", 3}, {"1 == f == $x", 7}, {"def f: g", 8}, {"{a: f, $x: 1}", 7},
		{"f(", 2}, {"1 | $x | 12345678901234567890", 9},
	})
	expectError(t, "f"+strings.Repeat(" ", 2000), api.ErrFilter, 0)
}

func TestSameAgain(t *testing.T) {
	texts := []string{"1 as $x | $x , 2", ". |", "$y", "def f(a): a; f(f(1))", "", strings.Repeat("[", 2001), `{"a":[.b?]}`}
	type answer struct {
		s  string
		e  api.Errno
		at int
	}
	ask := func(s string) answer {
		plain, e, at := Pretty(s)
		return answer{plain, e, at}
	}
	var first []answer
	for _, s := range texts {
		first = append(first, ask(s))
	}
	done := make(chan bool)
	for range 8 {
		go func() {
			same := true
			for range 50 {
				for i, s := range texts {
					same = same && ask(s) == first[i]
				}
			}
			done <- same
		}()
	}
	for range 8 {
		if !<-done {
			t.Error("an answer was another one")
		}
	}
}

// FuzzPretty looks for texts that break what holds of every answer.
func FuzzPretty(f *testing.F) {
	for _, s := range []string{
		"", ". |", "$y", "1+2 | .a", "def f(a; b): a | b; f(1; 2)", `{a:1,"b":2,(.c):(3|4)}`, "reduce .[] as $x (0; . + $x)",
		"foreach .a as $x (1; 2; 3)", "try error catch . | 1", "label $l | 1, break $l", "if . then 1 else 2 end", ".. .a[0][]?", "-1 // 2 |= 3 or 4 and 5 <= 6 * 7",
	} {
		f.Add(s)
	}
	f.Fuzz(checkAnswer)
}

func checkAnswer(t *testing.T, s string) {
	plain, e, at := Pretty(s)
	switch e {
	case api.OK:
		if plain == "" || at != 0 {
			t.Errorf("Pretty(%q) = %q, %d, %d", s, plain, e, at)
		}
		if len(plain) <= api.MaxText {
			expectPlain(t, plain, plain)
		}
	case api.ErrFilter, api.ErrName:
		if plain != "" || at < 0 || at > len(s) {
			t.Errorf("Pretty(%q) = %q, %d, %d", s, plain, e, at)
		}
		// What stands ahead of the wrong token is not wrong, but it may end
		// too early.
		if _, ahead, place := Pretty(s[:at]); e == api.ErrFilter && ahead == api.ErrFilter && place != at {
			t.Errorf("Pretty(%q) goes wrong at %d, but %q at %d", s, at, s[:at], place)
		}
	default:
		t.Errorf("Pretty(%q): error %d", s, e)
	}
}

func TestEveryAnswer(t *testing.T) {
	random := rand.New(rand.NewSource(3))
	pieces := append(strings.Fields(alphabet), "f", "$y", "007", " ", "\n", "#", "\"", "\\", "!", "!=", "<=", "$", "map", "(.)", "label $l |", ". as $x |")
	for range 20000 {
		var s strings.Builder
		for range random.Intn(12) {
			s.WriteString(pieces[random.Intn(len(pieces))])
		}
		checkAnswer(t, s.String())
	}
}
