package text

import (
	"encoding/json"
	"math/rand"
	"slices"
	"strconv"
	"strings"
	"sync"
	"testing"
	"unicode/utf8"

	"spigot/api"
)

func wantText(t *testing.T, in, out string) {
	t.Helper()
	if s, e, at := Canon(in); s != out || e != api.OK || at != 0 {
		t.Errorf("Canon(%.80q) = %.80q, %d, %d, want %.80q", in, s, e, at, out)
	}
}

func wantPlace(t *testing.T, in string, place int) {
	t.Helper()
	if s, e, at := Canon(in); s != "" || e != api.ErrText || at != place {
		t.Errorf("Canon(%.80q) = %.80q, %d, %d, want ErrText at %d", in, s, e, at, place)
	}
}

// texts are texts of values of every kind, with blanks and escapes.
func texts() []string {
	return []string{
		"null", "false", "true", "0", "-0", "7", "-10", "9223372036854775807", "-9223372036854775808",
		`""`, `"a"`, `"\"\\\/\b\f\n\r\t\u00Ff"`, `"\ud83d\ude00\uD800\uDC00\udbff\udfff"`, "\"\u00e9\u20ac\U0001f600\"",
		"[]", "[1]", "[ 1 , [ ] , { } ]", "{}", `{"a":1}`, ` { "b" : [ null , true ] , "a" : { "" : "x" } } `,
		"\t\r\n [[[[1],-2],3],\"\"]\t\r\n ", strings.Repeat(`{"k":[`, 32) + strings.Repeat("]}", 32),
	}
}

func TestDocumentExamples(t *testing.T) {
	wantText(t, ` {"b":[1 ,-0], "a":"\u0041\n"} `, `{"a":"A\n","b":[1,0]}`)
	wantPlace(t, "[1,]", 3)
	wantPlace(t, "01", 1)
	wantPlace(t, "9223372036854775808", 0)
	wantPlace(t, "", 0)
	wantPlace(t, `"\ud800x"`, 1)
}

func TestOrdinaryTexts(t *testing.T) {
	for _, c := range [][2]string{
		{"null", "null"}, {"false", "false"}, {"true", "true"}, {"12", "12"}, {"-12", "-12"},
		{`"abc"`, `"abc"`}, {`""`, `""`}, {"[]", "[]"}, {"{}", "{}"},
		{"[1,2,3]", "[1,2,3]"}, {`[null,[true,{"a":[]}],"x"]`, `[null,[true,{"a":[]}],"x"]`},
		{`{"a":{"b":{"c":-1}}}`, `{"a":{"b":{"c":-1}}}`},
	} {
		wantText(t, c[0], c[1])
	}
}

func TestBlanksMayStandAroundEveryToken(t *testing.T) {
	tokens := []string{"{", `"a"`, ":", "[", "1", ",", "null", ",", `"x y"`, "]", ",", `"b"`, ":", "{", "}", "}"}
	for _, blank := range []string{" ", "\t", "\n", "\r", " \t\n\r "} {
		wantText(t, blank+strings.Join(tokens, blank)+blank, `{"a":[1,null,"x y"],"b":{}}`)
	}
	for _, other := range []string{"\v", "\f", "\x00", "\u00a0", "\u2028", "\ufeff"} {
		wantPlace(t, other+"1", 0)
		wantPlace(t, "1"+other, 1)
		wantPlace(t, "["+other+"1]", 1)
	}
	wantPlace(t, "- 1", 1)
	wantPlace(t, "1 2", 2)
	wantPlace(t, "tr ue", 2)
}

func TestNumbers(t *testing.T) {
	for _, s := range []string{"0", "1", "-1", "10", "100000000000000000", "9223372036854775806", "9223372036854775807", "-9223372036854775807", "-9223372036854775808"} {
		wantText(t, s, s)
		wantText(t, "["+s+","+s+"]", "["+s+","+s+"]")
	}
	wantText(t, "-0", "0")
	for _, s := range []string{"9223372036854775808", "-9223372036854775809", "9223372036854775810", "10000000000000000000", "18446744073709551616", "-18446744073709551617", "1" + strings.Repeat("0", 5000)} {
		wantPlace(t, s, 0)
		wantPlace(t, s+"x", 0)
		wantPlace(t, s+".5", 0)
		wantPlace(t, "  "+s, 2)
		wantPlace(t, `{"a":[1,`+s+"]}", 8)
	}
	for _, c := range []struct {
		s  string
		at int
	}{
		{"00", 1}, {"01", 1}, {"-00", 2}, {"-01", 2}, {"[01]", 2}, {"00000000000000000000000", 1}, {"-", 1}, {"--1", 1}, {"-x", 1}, {"-]", 1},
		{"+1", 0}, {"1.0", 1}, {".5", 0}, {"1e1", 1}, {"1E1", 1}, {"-0.0", 2}, {"1x", 1}, {"0x1", 1}, {"1-", 1}, {"1_0", 1},
	} {
		wantPlace(t, c.s, c.at)
	}
}

func TestWords(t *testing.T) {
	for _, c := range []struct {
		s  string
		at int
	}{
		{"n", 1}, {"nul", 3}, {"nulL", 3}, {"nnull", 1}, {"nullnull", 4}, {"null,", 4}, {"Null", 0}, {"fals", 4}, {"falSe", 3}, {"truth", 3}, {"true1", 4}, {"undefined", 0}, {"NaN", 0}, {"[nul]", 4}, {"'a'", 0},
	} {
		wantPlace(t, c.s, c.at)
	}
}

func TestArraysAndObjects(t *testing.T) {
	for _, c := range []struct {
		s  string
		at int
	}{
		{"  ", 2}, {"[", 1}, {"[ ", 2}, {"[1", 2}, {"[1 ", 3}, {"[1,", 3}, {"[1, ", 4}, {"[[1]", 4},
		{"]", 0}, {"[,", 1}, {"[1,]", 3}, {"[1,,2]", 3}, {"[1 2]", 3}, {"[1:2]", 2}, {"[1}", 2}, {"[]]", 2}, {"[] []", 3}, {"[},", 1},
		{"{", 1}, {"{ ", 2}, {`{"a"`, 4}, {`{"a" `, 5}, {`{"a":`, 5}, {`{"a":1`, 6}, {`{"a":1,`, 7}, {`{"a":1, `, 8},
		{"}", 0}, {"{,", 1}, {"{a:1}", 1}, {"{1:2}", 1}, {"{null:1}", 1}, {"{[", 1}, {"{]", 1}, {`{"a"}`, 4}, {`{"a",`, 4}, {`{"a" 1}`, 5}, {`{"a"::1}`, 5}, {`{"a":}`, 5}, {`{"a":1]`, 6}, {`{"a":1,}`, 7}, {`{"a":1,,`, 7}, {`{"a":1 "b":2}`, 7}, {`{"a":1:`, 6}, {`{"a":1,2}`, 7}, {`{}}`, 2}, {`{"a`, 3}, {`{"a` + "\n", 3},
	} {
		wantPlace(t, c.s, c.at)
	}
}

func TestNesting(t *testing.T) {
	for _, c := range [][2]string{{"[", "]"}, {`{"a":`, "}"}, {`[{"a":`, "}]"}} {
		levels := 64 / len(c[1])
		deep := strings.Repeat(c[0], levels)
		inner := deep + "0" + strings.Repeat(c[1], levels)
		wantText(t, inner, inner)
		wantPlace(t, deep, len(deep))
		for _, tooMany := range []string{"[", "{", "[]", "{}", "[[", `{"a":1}`} {
			wantPlace(t, deep+tooMany, len(deep))
			wantPlace(t, deep+"  "+tooMany+strings.Repeat(c[1], levels), len(deep)+2)
		}
	}
	wantText(t, strings.Repeat("[", 64)+strings.Repeat("]", 64), strings.Repeat("[", 64)+strings.Repeat("]", 64))
	side := strings.Repeat("[", 63) + strings.Repeat("]", 63)
	wantText(t, "["+strings.Repeat(side+",", 9)+"{}]", "["+strings.Repeat(side+",", 9)+"{}]")
	wantPlace(t, `"`+strings.Repeat("[", 65), 66)
	wantText(t, `"`+strings.Repeat("[", 65)+`"`, `"`+strings.Repeat("[", 65)+`"`)
	wantPlace(t, strings.Repeat("[", 1000000), 64)
	wantPlace(t, strings.Repeat(`{"a":`, 100000), 320)
}

func TestEscapes(t *testing.T) {
	wantText(t, `"\"\\\/\b\f\n\r\t"`, `"\"\\/\b\f\n\r\t"`)
	wantText(t, `"\u0022\u005c\u005C\u002f"`, `"\"\\\\/"`)
	wantText(t, `"\u00e9\u00E9\uFfFf\u007f\u0080"`, "\"\u00e9\u00e9\uffff\x7f\u0080\"")
	for c := range 0x20 {
		escape := `\u00` + strconv.FormatInt(int64(c)+0x100, 16)[1:]
		short := map[int]string{8: `\b`, 9: `\t`, 10: `\n`, 12: `\f`, 13: `\r`}[c]
		if short == "" {
			short = escape
		}
		wantText(t, `"x`+escape+`y"`, `"x`+short+`y"`)
		wantText(t, `"\u`+strings.ToUpper(escape[2:])+`"`, `"`+short+`"`)
		wantText(t, `{"`+escape+`":0}`, `{"`+short+`":0}`)
		wantPlace(t, `"x`+string(rune(c))+`y"`, 2)
		wantPlace(t, `{"`+string(rune(c))+`":0}`, 2)
	}
	for _, c := range []struct {
		s  string
		at int
	}{
		{`"`, 1}, {`"a`, 2}, {`"\`, 2}, {`"\"`, 3}, {`"\\`, 3}, {`"\x41"`, 2}, {`"\U0041"`, 2}, {`"\N"`, 2}, {`"\'"`, 2}, {`"\0"`, 2}, {"\"\\\n\"", 2}, {"\"\\\u00e9\"", 2},
		{`"\u`, 3}, {`"\u0`, 4}, {`"\u00`, 5}, {`"\u004`, 6}, {`"\u0041`, 7}, {`"\u"`, 3}, {`"\ug`, 3}, {`"\u0"`, 4}, {`"\u00 1"`, 5}, {`"\u004g"`, 6}, {`"\u004G"`, 6}, {`"\u-041"`, 3}, {`"\u+041"`, 3}, {`"\u00_1"`, 5}, {`"a""`, 3}, {`"a"b`, 3}, {`\u0041`, 0},
	} {
		wantPlace(t, c.s, c.at)
	}
}

func TestSurrogatePairs(t *testing.T) {
	wantText(t, `"\ud83d\ude00"`, "\"\U0001f600\"")
	wantText(t, `"\uD83D\uDE00"`, "\"\U0001f600\"")
	wantText(t, `"\ud800\udc00\udbff\udfff"`, "\"\U00010000\U0010ffff\"")
	wantText(t, `"\ud7ff\ue000"`, "\"\ud7ff\ue000\"")
	wantText(t, `{"\ud83d\ude00":"a\ud83d\ude00b"}`, "{\"\U0001f600\":\"a\U0001f600b\"}")
}

func TestSurrogatesAlone(t *testing.T) {
	for _, first := range []string{`\ud800`, `\uDBFF`, `\udaBc`} {
		for _, behind := range []string{
			`"`, `x`, ` `, "\n", "\xff", "\u00e9", `\n`, `\"`, `\\`, `\x`, `\U`,
			`\u"`, `\ug`, `\u0041`, `\ud"`, `\ud7ff`, `\ud800`, `\udbff`, `\ue000`, `\uc`, `\udg`, `\udc"`, `\udcg0`, `\udc0"`, `\udc0g`, `\uDFF` + "\x00",
		} {
			wantPlace(t, `"`+first+behind, 1)
			wantPlace(t, `["ab`+first+behind+`"]`, 4)
			wantPlace(t, `"\ud83d\ude00`+first+behind+`"`, 13)
		}
	}
	for _, second := range []string{`\udc00`, `\udfff`, `\uDE00`, `\udcba`} {
		wantPlace(t, `"`+second+`"`, 1)
		wantPlace(t, `"`+second+second, 1)
		wantPlace(t, `"`+second+`\ud800"`, 1)
		wantPlace(t, `"\ud800\udc00`+second+`"`, 13)
		wantPlace(t, `{"a":"b`+second, 7)
	}
}

func TestSurrogatesCutShort(t *testing.T) {
	pair := `"ab\ud83d\uDE00`
	for i := range len(pair) + 1 {
		wantPlace(t, pair[:i], i)
	}
	// From these bytes on no text goes on, though the escape is cut short.
	wantPlace(t, `"\ud83d\u0`, 1)
	wantPlace(t, `"\ud83d\ud8`, 1)
	wantPlace(t, `"\udc`, 1)
	wantPlace(t, `"\uDF0`, 1)
	wantPlace(t, `"\udcxx"`, 1)
}

func TestEveryCharacterIsItself(t *testing.T) {
	var all, escaped strings.Builder
	for c := rune(' '); c <= utf8.MaxRune; c++ {
		if c == '"' || c == '\\' || !utf8.ValidRune(c) {
			continue
		}
		all.WriteRune(c)
		if c < 0x10000 {
			escaped.WriteString(`\u` + strconv.FormatInt(int64(c)+0x10000, 16)[1:])
		} else {
			high, low := 0xd800+int64(c-0x10000)>>10, 0xdc00+int64(c-0x10000)&0x3ff
			escaped.WriteString(`\u` + strconv.FormatInt(high, 16) + `\u` + strings.ToUpper(strconv.FormatInt(low, 16)))
		}
	}
	want := `"` + all.String() + `"`
	if s, e, at := Canon(want); s != want || e != api.OK || at != 0 {
		t.Error("not all characters are themselves", e, at)
	}
	if s, e, at := Canon(`"` + escaped.String() + `"`); s != want || e != api.OK || at != 0 {
		t.Error("not all escapes are their characters", e, at)
	}
}

func TestBytesThatAreNoUTF8(t *testing.T) {
	for _, c := range []struct {
		bytes string
		wrong int
	}{
		{"\x80", 0}, {"\xbf", 0}, {"\xc0\x80", 0}, {"\xc1\xbf", 0}, {"\xf5\x80\x80\x80", 0}, {"\xfe", 0}, {"\xff", 0},
		{"\xc2", 1}, {"\xc2\x7f", 1}, {"\xc2\xc2", 1}, {"\xdf\xc0", 1}, {"\xe0\x9f\xbf", 1}, {"\xe0\xa0", 2}, {"\xe1\x80\xc0", 2}, {"\xed\xa0\x80", 1}, {"\xed\xbf\xbf", 1}, {"\xef\xbf\x20", 2},
		{"\xf0\x8f\xbf\xbf", 1}, {"\xf0\x90\x80", 3}, {"\xf3\x80\x80\x7f", 3}, {"\xf4\x90\x80\x80", 1}, {"\xf4\x8f\xbf\xc0", 3}, {"\u00e9\xe9", 3},
	} {
		wantPlace(t, `"`+c.bytes+`"`, 1+c.wrong)
		wantPlace(t, `{"a`+c.bytes+`":1}`, 3+c.wrong)
		wantPlace(t, c.bytes, 0)
	}
	for _, s := range []string{"\xc3", "\xe2\x82", "\xe2", "\xf0\x9f\x98", "\xf0\x9f", "\xf4"} {
		wantPlace(t, `"`+s, 1+len(s))
	}
}

func TestStringsAreUTF8(t *testing.T) {
	edges := []byte{0x20, 0x41, 0x7f, 0x80, 0x8f, 0x90, 0x9f, 0xa0, 0xbf, 0xc0, 0xc1, 0xc2, 0xdf, 0xe0, 0xe1, 0xec, 0xed, 0xee, 0xef, 0xf0, 0xf1, 0xf3, 0xf4, 0xf5, 0xff}
	for _, a := range edges {
		for _, b := range edges {
			for _, c := range edges {
				for _, d := range edges {
					s := `"` + string([]byte{a, b, c, d}) + `"`
					if utf8.ValidString(s) {
						wantText(t, s, s)
					} else if _, e, _ := Canon(s); e != api.ErrText {
						t.Errorf("Canon(%q): error %d", s, e)
					}
					checkAnswer(t, s)
				}
			}
		}
	}
}

func TestOfTwoLikeKeysTheLaterOneCounts(t *testing.T) {
	wantText(t, `{"a":1,"a":2}`, `{"a":2}`)
	wantText(t, `{"a":1,"b":2,"a":3}`, `{"a":3,"b":2}`)
	wantText(t, `{"a":{"x":1},"\u0061":[]}`, `{"a":[]}`)
	wantText(t, `{"":1,"":2,"":3,"x":4,"x":5}`, `{"":3,"x":5}`)
	wantText(t, `[{"a":1},{"a":2}]`, `[{"a":1},{"a":2}]`)
	wantPlace(t, `{"a":01,"a":2}`, 6)
	var many strings.Builder
	for i := range 1000 {
		many.WriteString(`"k` + strconv.Itoa(i%7) + `":` + strconv.Itoa(i) + `,`)
	}
	wantText(t, "{"+many.String()+`"k0":0}`, `{"k0":0,"k1":995,"k2":996,"k3":997,"k4":998,"k5":999,"k6":993}`)
}

func TestKeysRise(t *testing.T) {
	wantText(t, `{"b":1,"":2,"ab":3,"a":4,"B":5,"10":6,"9":7}`, `{"":2,"10":6,"9":7,"B":5,"a":4,"ab":3,"b":1}`)
	// Byte by byte as UTF-8, not by UTF-16's units and not by the escapes.
	wantText(t, `{"\ud83d\ude00":1,"\uffee":2,"\u00e9":3,"z":4,"\n":5," ":6}`, "{\"\\n\":5,\" \":6,\"z\":4,\"\u00e9\":3,\"\uffee\":2,\"\U0001f600\":1}")
	wantText(t, `{"c":{"b":1,"a":2},"a":[{"z":1,"y":2}]}`, `{"a":[{"y":2,"z":1}],"c":{"a":2,"b":1}}`)
	keys := []string{"", "\x00", "\x1f", " ", "!", "~", "\x7f", "\u0080", "\u07ff", "\u0800", "\ud7ff", "\ue000", "\uffff", "\U00010000", "\U0010ffff"}
	slices.Reverse(keys)
	in, _ := json.Marshal(keys)
	out, e, _ := Canon("{" + strings.ReplaceAll(strings.Trim(string(in), "[]"), ",", ":0,") + ":0}")
	var got []string
	dec := json.NewDecoder(strings.NewReader(out))
	for tok, err := dec.Token(); err == nil; tok, err = dec.Token() {
		if s, ok := tok.(string); ok {
			got = append(got, s)
		}
	}
	slices.Reverse(keys)
	if e != api.OK || !slices.Equal(got, keys) {
		t.Errorf("keys %q, want %q", got, keys)
	}
}

func TestEveryPrefixOfATextMayGoOn(t *testing.T) {
	for _, s := range texts() {
		for i := range len(s) {
			got, e, at := Canon(s[:i])
			if e == api.OK {
				continue
			}
			if got != "" || e != api.ErrText || at != i {
				t.Errorf("Canon(%.80q) = %q, %d, %d, want ErrText at its length", s[:i], got, e, at)
			}
		}
	}
}

// checkAnswer checks what holds of every answer of Canon.
func checkAnswer(t *testing.T, s string) {
	t.Helper()
	got, e, at := Canon(s)
	switch e {
	case api.OK:
		if again, e2, at2 := Canon(got); at != 0 || again != got || e2 != api.OK || at2 != 0 {
			t.Errorf("Canon(%q) = %q, %d, and of that %q, %d, %d", s, got, at, again, e2, at2)
		}
	case api.ErrText:
		if got != "" || at < 0 || at > len(s) {
			t.Errorf("Canon(%q) = %q, %d, %d", s, got, e, at)
			return
		}
		if _, e2, at2 := Canon(s[:at]); e2 != api.OK && at2 != at {
			t.Errorf("Canon(%q) goes wrong at %d, but of the bytes ahead at %d", s, at, at2)
		}
	default:
		t.Errorf("Canon(%q): error %d", s, e)
	}
}

func TestAllShortTexts(t *testing.T) {
	const bytes = `[]{},:"1-0 n`
	var try func(s string)
	try = func(s string) {
		checkAnswer(t, s)
		if _, e, _ := Canon(s); (e == api.OK) != json.Valid([]byte(s)) {
			t.Errorf("Canon(%q): error %d", s, e)
		}
		if len(s) < 5 {
			for _, c := range bytes {
				try(s + string(c))
			}
		}
	}
	try("")
}

func TestSpoiltTexts(t *testing.T) {
	r := rand.New(rand.NewSource(1))
	for range 300 {
		for _, s := range texts() {
			b := []byte(s)
			for range 1 + r.Intn(3) {
				b[r.Intn(len(b))] = byte(r.Intn(256))
			}
			checkAnswer(t, string(b))
			i := r.Intn(len(s))
			checkAnswer(t, s[:i]+s[min(len(s), i+1+r.Intn(3)):])
			checkAnswer(t, s[:i]+string(rune(r.Intn(128)))+s[i:])
		}
	}
}

func TestLongTexts(t *testing.T) {
	list := "[" + strings.Repeat("1,", 300000) + "1]"
	wantText(t, list, list)
	wantPlace(t, list[:len(list)-1], len(list)-1)
	word := `"` + strings.Repeat("word", 300000) + `"`
	wantText(t, word, word)
	wantPlace(t, strings.Repeat(" ", 1000000), 1000000)
	wantPlace(t, strings.Repeat("9", 1000000), 0)
}

func TestTheSameCallAnswersTheSame(t *testing.T) {
	inputs := append(texts(), "", "[1,", `"\ud800x"`, "99999999999999999999", `{"a":1,"a":2,"b":3,"a":4}`, "\"\xff\"")
	type answer struct {
		s  string
		e  api.Errno
		at int
	}
	var first []answer
	for _, in := range inputs {
		s, e, at := Canon(in)
		first = append(first, answer{s, e, at})
	}
	var wait sync.WaitGroup
	for w := range 8 {
		wait.Add(1)
		go func() {
			defer wait.Done()
			for i := range 20 * len(inputs) {
				k := (i*(2*w+1) + w) % len(inputs)
				s, e, at := Canon(inputs[k])
				if (answer{s, e, at}) != first[k] {
					t.Errorf("Canon(%q) answers %q, %d, %d, and before %v", inputs[k], s, e, at, first[k])
				}
			}
		}()
	}
	wait.Wait()
}

func FuzzCanon(f *testing.F) {
	for _, s := range texts() {
		f.Add(s)
	}
	f.Fuzz(checkAnswer)
}
