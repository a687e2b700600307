package filter

import (
	"math/rand"
	"strings"
	"testing"

	"spigot/api"
)

// grammar is the document's, row by row; what it repeats goes on from the left.
const grammar = `
filter = def NAME : filter ; filter
filter = def NAME ( names ) : filter ; filter
filter = pipe
names = NAME
names = names ; NAME
pipe = comma | pipe
pipe = comma
comma = alt
comma = comma , alt
alt = update // alt
alt = update
update = either |= either
update = either = either
update = either
either = both
either = either or both
both = compare
both = both and compare
compare = sum == sum
compare = sum < sum
compare = sum
sum = product
sum = sum + product
sum = sum - product
product = minus
product = product * minus
minus = - minus
minus = bound
bound = postfix as VARIABLE | pipe
bound = label VARIABLE | pipe
bound = try minus
bound = try minus catch minus
bound = reduce postfix as VARIABLE ( filter ; filter )
bound = foreach postfix as VARIABLE ( filter ; filter ; filter )
bound = if filter then filter else filter end
bound = postfix
postfix = primary
postfix = postfix . NAME
postfix = postfix [ filter ]
postfix = postfix [ ]
postfix = postfix ?
primary = .
primary = ..
primary = . NAME
primary = NUMBER
primary = STRING
primary = null
primary = VARIABLE
primary = break VARIABLE
primary = [ filter ]
primary = [ ]
primary = { }
primary = { members }
primary = ( filter )
primary = NAME
primary = NAME ( filters )
filters = filter
filters = filters ; filter
members = member
members = members , member
member = NAME : alt
member = STRING : alt
member = ( filter ) : alt
`

type rule struct {
	name  string
	parts []string
}

// state is a rule of which some parts are found, from the token at start on.
type state struct{ rule, found, start int }

// recogniser goes through tokens with all derivations at once (by Earley's
// way), so it knows nothing of how the program reads.
type recogniser struct {
	rules []rule
	by    map[string][]int
}

func newRecogniser() *recogniser {
	g := &recogniser{by: map[string][]int{}}
	for _, line := range strings.Split(strings.TrimSpace(grammar), "\n") {
		words := strings.Fields(line)
		g.by[words[0]] = append(g.by[words[0]], len(g.rules))
		g.rules = append(g.rules, rule{words[0], words[2:]})
	}
	return g
}

// next is the part that a state waits for, or empty if it has all.
func (g *recogniser) next(s state) string {
	if parts := g.rules[s.rule].parts; s.found < len(parts) {
		return parts[s.found]
	}
	return ""
}

// close adds what follows from the states of the last set.
func (g *recogniser) close(sets [][]state) {
	last := len(sets) - 1
	seen := map[state]struct{}{}
	for _, s := range sets[last] {
		seen[s] = struct{}{}
	}
	add := func(s state) {
		if _, ok := seen[s]; !ok {
			seen[s] = struct{}{}
			sets[last] = append(sets[last], s)
		}
	}
	for i := 0; i < len(sets[last]); i++ {
		s := sets[last][i]
		part := g.next(s)
		for _, r := range g.by[part] {
			add(state{r, 0, last})
		}
		if part != "" {
			continue
		}
		for _, from := range sets[s.start] {
			if g.next(from) == g.rules[s.rule].name {
				add(state{from.rule, from.found + 1, from.start})
			}
		}
	}
}

// wrong is the number of the first token that cannot stand where it stands,
// how many there are if more are missing, -1 if they are a filter.
func (g *recogniser) wrong(tokens []string) int {
	sets := [][]state{nil}
	for _, r := range g.by["filter"] {
		sets[0] = append(sets[0], state{r, 0, 0})
	}
	g.close(sets)
	for i, t := range tokens {
		var set []state
		for _, s := range sets[i] {
			if g.next(s) == class(t) {
				set = append(set, state{s.rule, s.found + 1, s.start})
			}
		}
		if len(set) == 0 {
			return i
		}
		sets = append(sets, set)
		g.close(sets)
	}
	for _, s := range sets[len(tokens)] {
		if s.start == 0 && g.next(s) == "" && g.rules[s.rule].name == "filter" {
			return -1
		}
	}
	return len(tokens)
}

func class(token string) string {
	switch token {
	case "a":
		return "NAME"
	case "$x":
		return "VARIABLE"
	case "1":
		return "NUMBER"
	case `"s"`:
		return "STRING"
	}
	return token
}

const alphabet = `def as if then else end try catch reduce foreach label break and or null a $x 1 "s" . .. | , // == < |= = + - * ? ( ) [ ] { } : ;`

// checkPlace holds Pretty against the recogniser. Whether the names are known
// doesn't matter here.
func checkPlace(t *testing.T, g *recogniser, tokens []string) {
	t.Helper()
	text := strings.Join(tokens, " ")
	wrong := g.wrong(tokens)
	place := len(text)
	if 0 <= wrong && wrong < len(tokens) {
		place = len(strings.Join(tokens[:wrong], " "))
		if wrong > 0 {
			place++
		}
	}
	plain, e, at := Pretty(text)
	if wrong < 0 && e == api.ErrFilter || wrong >= 0 && (plain != "" || e != api.ErrFilter || at != place) {
		t.Fatalf("Pretty(%q) = %q, %d, %d; by the grammar token %d is wrong, at %d", text, plain, e, at, wrong, place)
	}
}

func TestPlacesOfShortTexts(t *testing.T) {
	g := newRecogniser()
	all := strings.Fields(alphabet)
	for _, a := range all {
		checkPlace(t, g, []string{a})
		for _, b := range all {
			checkPlace(t, g, []string{a, b})
			for _, c := range all {
				checkPlace(t, g, []string{a, b, c})
			}
		}
	}
}

// TestPlacesOfLongTexts mostly takes tokens that can stand, so that it gets far
// into a text. In an object it binds nothing: what stands behind as and label
// goes as far as it can there, and so past a comma that the grammar would give
// to the object.
func TestPlacesOfLongTexts(t *testing.T) {
	g := newRecogniser()
	all := strings.Fields(alphabet)
	random := rand.New(rand.NewSource(1))
	for range 500 {
		var tokens []string
		for range 1 + random.Intn(25) {
			next := all[random.Intn(len(all))]
			for range 20 {
				if g.wrong(append(tokens[:len(tokens):len(tokens)], next)) != len(tokens) {
					break
				}
				next = all[random.Intn(len(all))]
			}
			tokens = append(tokens, next)
		}
		text := strings.Join(tokens, " ")
		if strings.Contains(text, "{") && (strings.Contains(text, " as ") || strings.Contains(text, "label ")) {
			continue
		}
		checkPlace(t, g, tokens)
	}
}
