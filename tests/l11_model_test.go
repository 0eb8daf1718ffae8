package tests

import (
	"maps"
	"math/big"
	"slices"
	"strconv"
	"strings"

	"loop.example/g00166/impl"
)

// foretold is what is known of a twig ahead; its numbers are told exactly, however
// great they are, with 1000 for any number.
type foretold struct {
	low, high *big.Int
	fails     bool
}

func foretell(low, high int64, fails bool) foretold {
	return foretold{big.NewInt(low), big.NewInt(high), fails}
}

func times(a, b *big.Int) *big.Int   { return new(big.Int).Mul(a, b) }
func plus(a, b *big.Int) *big.Int    { return new(big.Int).Add(a, b) }
func isAbove(a *big.Int, n int) bool { return a.Cmp(big.NewInt(int64(n))) > 0 }

func lesser(a, b *big.Int) *big.Int {
	if a.Cmp(b) < 0 {
		return a
	}
	return b
}

func greater(a, b *big.Int) *big.Int {
	if a.Cmp(b) > 0 {
		return a
	}
	return b
}

// modelCount goes by the document's sentences.
func modelCount(w *twig) foretold {
	var a, b, c foretold
	for i, kid := range w.kids {
		*[]*foretold{&a, &b, &c}[i] = modelCount(kid)
	}
	switch modelCores[w.op][0] {
	case "self", "const", "var":
		return foretell(1, 1, false)
	case "empty":
		return foretell(0, 0, false)
	case "do":
		return foretell(1, 1, w.num != 3)
	case "pipe", "as":
		return foretold{times(a.low, b.low), times(a.high, b.high), a.fails || b.fails}
	case "comma":
		return foretold{plus(a.low, b.low), plus(a.high, b.high), a.fails || b.fails}
	case "if":
		return foretold{times(a.low, lesser(b.low, c.low)), times(a.high, greater(b.high, c.high)), a.fails || b.fails || c.fails}
	case "bin":
		return foretold{times(a.low, b.low), times(a.high, b.high), a.fails || b.fails || !strings.Contains(" 4 5 6 7 8 9 ", " "+strconv.FormatInt(w.num, 10)+" ")}
	case "at", "member":
		return foretold{times(a.low, b.low), times(a.high, b.high), true}
	case "each":
		if isAbove(a.high, 0) {
			return foretell(0, 1000, true)
		}
		return foretell(0, 0, a.fails)
	case "try":
		if a.fails {
			a.low = new(big.Int)
		}
		return foretold{a.low, a.high, false}
	case "list":
		return foretell(1, 1, w.kids[0].op != impl.CoreEmpty)
	case "reduce":
		return foretold{b.low, b.high, a.fails || b.fails || c.fails}
	}
	// An alt.
	low := b.low
	if isAbove(a.high, 0) && isAbove(b.low, 0) {
		low = big.NewInt(1)
	}
	return foretold{low, greater(a.high, b.high), b.fails}
}

func modelCounted(w *twig) impl.CountResult {
	many := big.NewInt(1000)
	f := modelCount(w)
	return impl.CountResult{Low: lesser(f.low, many).Int64(), High: lesser(f.high, many).Int64(), Fails: f.fails}
}

// countAs is an answer as a text: Low, High, and whether it fails.
func countAs(c impl.CountResult) string {
	if c.Code != 0 {
		return code(c.Code) + strings.Repeat(" and more", min(1, int(c.Low+c.High)))
	}
	return strconv.FormatInt(c.Low, 10) + " " + strconv.FormatInt(c.High, 10) + map[bool]string{true: " fails"}[c.Fails]
}

// walk goes through a twig and all that is in it.
func (w *twig) walk(do func(*twig)) {
	do(w)
	for _, kid := range w.kids {
		kid.walk(do)
	}
}

func modelKinds(w *twig) []int64 {
	kinds := make([]int64, 17)
	w.walk(func(one *twig) { kinds[one.op-1]++ })
	return kinds
}

func modelReads(w *twig) []string {
	texts := map[string]bool{}
	w.walk(func(one *twig) {
		if modelCores[one.op][0] != "at" || modelCores[one.kids[1].op][0] != "const" {
			return
		}
		if text, is := sampleOf(one.kids[1].val).tree.(string); is {
			texts[text] = true
		}
	})
	return slices.Sorted(maps.Keys(texts))
}

// keepsTold is promise 12 of a run: no fewer and no more values than is told ahead,
// fewer only with a code at its end, and a code of its own only where it may.
func keepsTold(c impl.CountResult, r impl.RunResult) bool {
	made := int64(len(r.Outs))
	tooFew := made < c.Low && r.Code == 0
	tooMany := made > c.High && c.High != 1000
	isCut := r.Code == impl.ErrFuel || r.Code == impl.ErrMany
	return !tooFew && !tooMany && (c.Fails || isCut || r.Code == 0)
}
