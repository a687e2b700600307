package work

import (
	"strings"
	"testing"

	"spigot/api"
	"spigot/syntax"
	"spigot/value"
)

func start(t *testing.T, f string, depth int) *Stream {
	t.Helper()
	tree, e, at := syntax.Read(f)
	if e != api.OK {
		t.Fatal(f, e, at)
	}
	return Start(tree, value.Number(0), depth)
}

func TestNext(t *testing.T) {
	for _, c := range []struct {
		filter string
		depth  int
		want   []api.Answer
	}{
		{"1, [2]", 0, []api.Answer{{Status: api.Full, Text: "1"}, {Status: api.Full, Text: "[2]"}, {Status: api.Done}}},
		{`., error("x")`, 0, []api.Answer{{Status: api.Full, Text: "0"}, {Status: api.Failed, Text: `"x"`}}},
		{"., map(.)", 0, []api.Answer{{Status: api.Full, Text: "0"}, {Status: api.Deep}}},
		{"., map(.)", -1, []api.Answer{{Status: api.Full, Text: "0"}, {Status: api.Deep}}},
		{"., map(.)", 1, []api.Answer{{Status: api.Full, Text: "0"}, {Status: api.Failed, Text: `"type"`}}},
		{"empty", 0, []api.Answer{{Status: api.Done}}},
	} {
		s := start(t, c.filter, c.depth)
		for i, want := range c.want {
			if got := s.Next(); got != want {
				t.Errorf("%s, %d: %+v, want %+v", c.filter, i, got, want)
			}
		}
		for range 3 {
			if got, want := s.Next(), c.want[len(c.want)-1]; got != want {
				t.Errorf("%s, behind its end: %+v, want %+v", c.filter, got, want)
			}
		}
		if s.rest != nil {
			t.Errorf("%s: something is kept of a stream that has ended", c.filter)
		}
	}
}

// TestNothingAheadOfNext: a stream that nobody asks works nothing out.
func TestNothingAheadOfNext(t *testing.T) {
	for _, f := range []string{"error", "def f: f; f", "1 | error", "[range(0; 999999999999999999)]", "label $l | break $l", "reduce range(0; 999999999999999999) as $x (0; .)", ".[] |= error", "{a: error}"} {
		start(t, f, 50)
	}
}

// TestStreamsThatNobodyAsksTakeNoRoom: what is begun is as small as that.
func TestStreamsThatNobodyAsksTakeNoRoom(t *testing.T) {
	tree, _, _ := syntax.Read("def f: " + strings.Repeat("-", 1900) + "f; f")
	if n := testing.AllocsPerRun(10, func() { Start(tree, value.Null{}, 50) }); n > 20 {
		t.Errorf("%v pieces of memory", n)
	}
}

func TestStreamsKnowNothingOfOneAnother(t *testing.T) {
	tree, _, _ := syntax.Read("foreach (1, 2, 3) as $x (.; . + $x; .)")
	a, b := Start(tree, value.Number(0), 0), Start(tree, value.Number(10), 0)
	for i, want := range []string{"1", "11", "3", "13", "6", "16"} {
		s := a
		if i%2 == 1 {
			s = b
		}
		if got := s.Next(); got.Text != want {
			t.Errorf("%d: %+v, want %s", i, got, want)
		}
	}
}

// TestOthersGoThrough: a fault of the program is no end of a stream.
func TestOthersGoThrough(t *testing.T) {
	defer func() {
		if recover() != "a fault" {
			t.Error("a fault of the program was caught")
		}
	}()
	pull(func() (spot, bool) { panic("a fault") })
}

// TestGivenDefinitions: all of them are there.
func TestGivenDefinitions(t *testing.T) {
	for _, d := range []struct {
		name   string
		params int
	}{{"map", 1}, {"select", 1}, {"recurse", 1}, {"until", 2}, {"repeat", 1}, {"while", 2}, {"isvalid", 1}, {"last", 1}} {
		if found := given().find(asFilter, d.name, d.params); found == nil || found.def == nil {
			t.Errorf("%s is not there", d.name)
		}
	}
}
