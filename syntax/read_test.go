package syntax

import (
	"testing"

	"spigot/api"
	"spigot/value"
)

func TestReadTellsTheFilter(t *testing.T) {
	f, e, at := Read(`{a: 1, "b": ., ("c"): 2}`)
	if e != api.OK || at != 0 {
		t.Fatal(e, at)
	}
	built, ok := f.(*Build)
	if !ok || len(built.Members) != 3 {
		t.Fatalf("%#v", f)
	}
	for i, key := range []value.String{"a", "b", "c"} {
		if l, ok := built.Members[i].Key.(*Literal); !ok || l.Value != value.Value(key) {
			t.Errorf("the key of member %d is %#v, want %q", i, built.Members[i].Key, key)
		}
	}
}

func TestReadOfNoFilter(t *testing.T) {
	for _, s := range []string{"", "1 |", "[", "{a:", "$x", "def f: 1", "1 as $x"} {
		if f, e, _ := Read(s); f != nil || e == api.OK {
			t.Errorf("Read(%q) = %#v, %d", s, f, e)
		}
	}
}
