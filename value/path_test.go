package value

import (
	"runtime/debug"
	"slices"
	"testing"

	"spigot/api"
)

func valueOf(t *testing.T, text string) Value {
	t.Helper()
	v, _, ok := Read(text)
	if !ok {
		t.Fatal(text)
	}
	return v
}

func pathOf(t *testing.T, text string) Array {
	t.Helper()
	path, ok := valueOf(t, text).(Array)
	if !ok {
		t.Fatal(text)
	}
	return path
}

func told(v Value, err error) string {
	if err != nil {
		return err.Error()
	}
	return Canonical(v)
}

func TestPaths(t *testing.T) {
	for _, c := range []struct{ value, path, get, set, deleted string }{
		{"1", "[]", "1", "9", "null"},
		{"null", `["a"]`, "null", `{"a":9}`, "null"},
		{"null", "[1]", "null", "[null,9]", "null"},
		{"null", "[-1]", "null", "type", "null"},
		{"null", `["a",0,"b"]`, "null", `{"a":[{"b":9}]}`, "null"},
		{"null", "[null]", "type", "type", "type"},
		{"null", `["a",null]`, "type", "type", "type"},
		{"null", `["a",true,"b"]`, "type", "type", "type"},
		{"1", `["a"]`, "type", "type", "type"},
		{`"a"`, "[0]", "type", "type", "type"},
		{"true", "[0]", "type", "type", "type"},
		{"[1,2]", "[0]", "1", "[9,2]", "[2]"},
		{"[1,2]", "[1]", "2", "[1,9]", "[1]"},
		{"[1,2]", "[2]", "null", "[1,2,9]", "[1,2]"},
		{"[1,2]", "[4]", "null", "[1,2,null,null,9]", "[1,2]"},
		{"[1,2]", "[-1]", "2", "[1,9]", "[1]"},
		{"[1,2]", "[-2]", "1", "[9,2]", "[2]"},
		{"[1,2]", "[-3]", "null", "type", "[1,2]"},
		{"[1,2]", "[10001]", "null", "type", "[1,2]"},
		{"[1,2]", "[9223372036854775807]", "null", "type", "[1,2]"},
		{"[1,2]", "[-9223372036854775808]", "null", "type", "[1,2]"},
		{"[1,2]", `["a"]`, "type", "type", "type"},
		{"[[1],2]", "[0,0]", "1", "[[9],2]", "[[],2]"},
		{"[[1],2]", "[0,-1]", "1", "[[9],2]", "[[],2]"},
		{"[[1],2]", "[1,0]", "type", "type", "type"},
		{"[null]", "[0,1]", "null", "[[null,9]]", "[null]"},
		{"[1]", "[3,1]", "null", "[1,null,null,[null,9]]", "[1]"},
		{`{"a":1,"c":2}`, `["a"]`, "1", `{"a":9,"c":2}`, `{"c":2}`},
		{`{"a":1,"c":2}`, `["b"]`, "null", `{"a":1,"b":9,"c":2}`, `{"a":1,"c":2}`},
		{`{"a":1,"c":2}`, `["d"]`, "null", `{"a":1,"c":2,"d":9}`, `{"a":1,"c":2}`},
		{`{"a":1,"c":2}`, "[0]", "type", "type", "type"},
		{`{"a":null}`, `["a","b"]`, "null", `{"a":{"b":9}}`, `{"a":null}`},
		{`{"a":null}`, `["a"]`, "null", `{"a":9}`, "{}"},
		{`{"a":{"b":[1,{"c":2}]}}`, `["a","b",-1,"c"]`, "2", `{"a":{"b":[1,{"c":9}]}}`, `{"a":{"b":[1,{}]}}`},
	} {
		v, path := valueOf(t, c.value), pathOf(t, c.path)
		if got := told(Get(v, path)); got != c.get {
			t.Errorf("%s at %s: %s, want %s", c.value, c.path, got, c.get)
		}
		if got := told(Set(v, path, Number(9))); got != c.set {
			t.Errorf("%s with 9 at %s: %s, want %s", c.value, c.path, got, c.set)
		}
		if got := told(Delete(v, path)); got != c.deleted {
			t.Errorf("%s without %s: %s, want %s", c.value, c.path, got, c.deleted)
		}
		if Canonical(v) != c.value || Canonical(path) != c.path {
			t.Errorf("%s, %s became %s, %s", c.value, c.path, Canonical(v), Canonical(path))
		}
	}
}

func TestHas(t *testing.T) {
	for _, c := range []struct {
		value, by string
		want      bool
		err       error
	}{
		{"[1]", "0", true, nil}, {"[1]", "1", false, nil}, {"[1]", "-1", false, nil}, {"[null]", "0", true, nil}, {"[]", "0", false, nil},
		{`{"a":null}`, `"a"`, true, nil}, {`{"a":1}`, `"b"`, false, nil}, {"[1]", `"a"`, false, ErrType}, {"{}", "0", false, ErrType}, {"null", "0", false, ErrType}, {"null", `"a"`, false, ErrType}, {`"a"`, "0", false, ErrType},
	} {
		if got, err := Has(valueOf(t, c.value), valueOf(t, c.by)); got != c.want || err != c.err {
			t.Errorf("Has(%s, %s) = %v, %v", c.value, c.by, got, err)
		}
	}
}

func TestPlacesUpToTheGreatest(t *testing.T) {
	long := slices.Repeat(Array{Number(0)}, 2*api.MaxIndex)
	for _, c := range []struct {
		value Array
		step  Number
		ok    bool
	}{
		{nil, api.MaxIndex, true}, {nil, api.MaxIndex + 1, false}, {long, api.MaxIndex, true}, {long, api.MaxIndex + 1, false}, {long, -1, false}, {long, -api.MaxIndex, true}, {long, -api.MaxIndex + 1, false},
	} {
		v, err := Set(c.value, Array{c.step}, Number(9))
		if c.ok != (err == nil) {
			t.Errorf("%d of %d: %v", c.step, len(c.value), err)
		}
		if !c.ok {
			continue
		}
		if got, _ := At(v, Number(api.MaxIndex)); got != Value(Number(9)) {
			t.Errorf("%d of %d: %v", c.step, len(c.value), got)
		}
	}
}

func TestLongPaths(t *testing.T) {
	defer debug.SetMaxStack(debug.SetMaxStack(1 << 20))
	path := slices.Repeat(Array{String("a"), Number(0)}, 50000)
	v, err := Set(Null{}, path, Number(9))
	if err != nil {
		t.Fatal(err)
	}
	if got, err := Get(v, path); got != Value(Number(9)) || err != nil {
		t.Error(got, err)
	}
	if v, err = Delete(v, path); err != nil {
		t.Fatal(err)
	}
	if got, _ := Get(v, path[:len(path)-1]); Canonical(got) != "[]" {
		t.Error(Canonical(got))
	}
}
