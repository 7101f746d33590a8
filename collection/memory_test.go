package collection

import (
	"math/rand/v2"
	"slices"
	"testing"

	"priceoffice/api"
)

// calls are the functions of the package that take a list; each returns a copy of its result and
// overwrites the result itself, spare capacity included.
func calls() map[string]func(list []api.Message) any {
	messages := func(got []api.Message) any {
		kept := slices.Clone(got)
		clear(got[:cap(got)])
		return kept
	}
	marks := func(got []api.Mark) any {
		kept := slices.Clone(got)
		clear(got[:cap(got)])
		return kept
	}
	half := func(list []api.Message) int { return len(list) / 2 }
	return map[string]func(list []api.Message) any{
		"Merge":       func(list []api.Message) any { return messages(Merge(list, nil)) },
		"Merge, back": func(list []api.Message) any { return messages(Merge(nil, list)) },
		// The second half lies in the spare capacity of the first one.
		"Merge, parts": func(list []api.Message) any { return messages(Merge(list[:half(list)], list[half(list):])) },
		"Cloned":       func(list []api.Message) any { return marks(Cloned(list)) },
		"Gaps":         func(list []api.Message) any { return marks(Gaps(list)) },
		"Candidates":   func(list []api.Message) any { return messages(Candidates(list, "o", cola, 5)) },
		"Resolve": func(list []api.Message) any {
			v, verdict := Resolve(list, "o", cola, 5)
			return []any{v, verdict}
		},
	}
}

func sameResults(a, b any) bool {
	switch x := a.(type) {
	case []api.Message:
		return slices.Equal(x, b.([]api.Message))
	case []api.Mark:
		return slices.Equal(x, b.([]api.Mark))
	case []any:
		return slices.Equal(x, b.([]any))
	}
	return false
}

// TestArgumentsAreNeitherChangedNorShared has lists whose memory goes on behind their end.
func TestArgumentsAreNeitherChangedNorShared(t *testing.T) {
	random := rand.New(rand.NewPCG(6, 32))
	behind := []api.Message{priced("a", 1, 7), priced("b", 2, 8), priced("zz", 400, 9), decides("zz", 401, "a", 1), {}}
	for range 1000 {
		list := randomList(random, 12)
		for name, call := range calls() {
			memory := slices.Concat(list, behind)
			before := slices.Clone(memory)
			lent := memory[:len(list)]
			first := call(lent)
			if second := call(lent); !sameResults(first, second) {
				t.Errorf("%s of %+v: %+v, then %+v", name, list, first, second)
			}
			if !slices.Equal(memory, before) {
				t.Errorf("%s changed %+v", name, list)
			}
			if bare := call(slices.Clip(slices.Clone(list))); !sameResults(first, bare) {
				t.Errorf("%s of %+v: %+v without spare capacity, %+v with it", name, list, bare, first)
			}
		}
	}
}
