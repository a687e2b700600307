package value

import (
	"strings"
	"testing"
)

func TestReadTellsTheValue(t *testing.T) {
	v, at, ok := Read(` {"b":[null,true,false,-7,"x\u00e9"], "a":{}} `)
	if at != 0 || !ok {
		t.Fatal(at, ok)
	}
	members, isObject := v.(Object)
	if !isObject || len(members) != 2 || members[0].Key != "a" || members[1].Key != "b" {
		t.Fatalf("%#v", v)
	}
	items, isArray := members[1].Value.(Array)
	if !isArray || len(items) != 5 {
		t.Fatalf("%#v", v)
	}
	if items[0] != Value(Null{}) || items[1] != Value(Bool(true)) || items[2] != Value(Bool(false)) || items[3] != Value(Number(-7)) || items[4] != Value(String("x\u00e9")) {
		t.Errorf("%#v", items)
	}
	if inner, ok := members[0].Value.(Object); !ok || len(inner) != 0 {
		t.Errorf("%#v", members[0].Value)
	}
}

func TestReadOfNoText(t *testing.T) {
	for _, s := range []string{"", "[1,", "[1,]", `{"a":1,`, `"\ud800"`} {
		if v, _, ok := Read(s); v != nil || ok {
			t.Errorf("Read(%q) = %#v, %v", s, v, ok)
		}
	}
}

func TestCanonicalOfDeepValues(t *testing.T) {
	const deep = 2000000
	var v Value = Null{}
	for range deep {
		v = Array{v}
	}
	if Canonical(v) != strings.Repeat("[", deep)+"null"+strings.Repeat("]", deep) {
		t.Error("a deep array is not written as it is")
	}
	v = Number(1)
	for range 65 {
		v = Object{{"a", v}}
	}
	if Canonical(v) != strings.Repeat(`{"a":`, 65)+"1"+strings.Repeat("}", 65) {
		t.Error("an object 65 deep is not written as it is")
	}
}

func TestCanonicalLeavesTheValue(t *testing.T) {
	v := Array{Object{{"a", Number(1)}, {"b", Array{String("\x01")}}}, Null{}}
	first := Canonical(v)
	if first != `[{"a":1,"b":["\u0001"]},null]` || Canonical(v) != first {
		t.Error(first, Canonical(v))
	}
}
