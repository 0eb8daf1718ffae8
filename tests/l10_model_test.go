package tests

import (
	"slices"
	"strconv"
	"strings"

	"loop.example/g00166/impl"
)

// modelPasses has for each pass what comes in place of what, in the order of the
// document: an op's word, a sign for each of its parts, and what it becomes: that
// part, a constant of what it makes (=), or empty (0). The signs: k a constant, t
// one that is neither null nor false, f another one, s self, v a variable, e empty,
// y a try, d a do, * anything.
var modelPasses = map[int64][][3]string{
	impl.PassFold: {{"bin", "kk", "="}, {"at", "kk", "="}, {"if", "t**", "B"}, {"if", "f**", "C"}, {"member", "kk", "="}, {"list", "k", "="}, {"list", "e", "="}},
	impl.PassPipe: {{"pipe", "s*", "B"}, {"pipe", "*s", "A"}, {"pipe", "kk", "B"}, {"pipe", "kd", "="}},
	impl.PassDead: {
		{"pipe", "e*", "0"}, {"each", "e", "0"}, {"try", "e", "0"}, {"if", "e**", "0"}, {"as", "e*", "0"}, {"at", "e*", "0"}, {"member", "e*", "0"}, {"bin", "*e", "0"},
		{"comma", "e*", "B"}, {"comma", "*e", "A"}, {"alt", "e*", "B"}, {"alt", "t*", "A"}, {"alt", "f*", "B"}, {"reduce", "*e*", "0"},
	},
	impl.PassTry: {{"try", "k", "A"}, {"try", "s", "A"}, {"try", "v", "A"}, {"try", "e", "A"}, {"try", "y", "A"}},
}

var allPasses = []int64{impl.PassFold, impl.PassPipe, impl.PassDead, impl.PassTry}

// signs are those that fit a twig.
func (w *twig) signs() string {
	switch modelCores[w.op][0] {
	case "const":
		return "*k" + []string{"t", "f"}[modelFalse(sampleOf(w.val))]
	case "self":
		return "*s"
	case "var":
		return "*v"
	case "empty":
		return "*e"
	case "try":
		return "*y"
	case "do":
		return "*d"
	}
	return "*"
}

func (w *twig) fits(row [3]string) bool {
	if modelCores[w.op][0] != row[0] {
		return false
	}
	for i, kid := range w.kids {
		if !strings.Contains(kid.signs(), row[1][i:i+1]) {
			return false
		}
	}
	return true
}

// modelPass tells what a pass makes of a twig, and how often it did something; a
// twig is never changed.
func modelPass(pass int64, w *twig) (*twig, int64) {
	other := &twig{w.op, w.num, w.val, nil}
	did := int64(0)
	for _, kid := range w.kids {
		k, n := modelPass(pass, kid)
		other.kids = append(other.kids, k)
		did += n
	}
	for _, row := range modelPasses[pass] {
		if !other.fits(row) {
			continue
		}
		switch row[2] {
		case "0":
			return tw(impl.CoreEmpty), did + 1
		case "=":
			run := modelRun(other, null(), 10)
			if run.Code == 0 {
				return tw(impl.CoreConst).valued(run.Outs[0]), did + 1
			}
		default:
			return other.kids[row[2][0]-'A'], did + 1
		}
	}
	return other, did
}

func modelPassed(w *twig, passes []int64) impl.PassResult {
	var did int64
	for _, pass := range passes {
		other, n := modelPass(pass, w)
		w, did = other, did+n
	}
	return impl.PassResult{Did: did, Core: w.nodes()}
}

// passedAs is an answer as a text: the core's twig, and behind "*" how often
// something was done.
func passedAs(r impl.PassResult) string {
	if r.Code != 0 {
		return code(r.Code) + strings.Repeat(" and more", min(1, len(r.Core)+int(r.Did)))
	}
	if fault := modelCoreFault(r.Core); fault != 0 {
		return "a core with " + code(fault)
	}
	return twigOf(r.Core).String() + " *" + strconv.FormatInt(r.Did, 10)
}

func samePass(a, b impl.PassResult) bool {
	return a.Code == b.Code && a.Did == b.Did && sameCores(a.Core, b.Core)
}

// modelStays tells for each instruction whether it stays.
func modelStays(ins []in) []bool {
	stays := slices.Repeat([]bool{true}, len(ins))
	targets := modelTargets(ins)
	for at := 1; at < len(ins); at++ {
		pair := modelIns[ins[at-1].Op].word + " " + modelIns[ins[at].Op].word
		if stays[at-1] && slices.Contains([]string{"dup pop", "push pop", "load pop"}, pair) && !slices.Contains(targets, int64(at)) {
			stays[at-1], stays[at] = false, false
		}
	}
	return stays
}

// modelPlaces has for each place, and the one behind the last, that of the next
// instruction that stays, once the others are left out.
func modelPlaces(stays []bool) []int64 {
	places := []int64{0}
	for at, stay := range stays {
		next := places[at]
		if stay {
			next++
		}
		places = append(places, next)
	}
	return places
}

func modelPeep(ins []in) []in {
	stays := modelStays(ins)
	places := modelPlaces(stays)
	var kept []in
	for at, i := range ins {
		if modelIns[i.Op].names == "J" {
			i.Arg = places[i.Arg]
		}
		if stays[at] {
			kept = append(kept, i)
		}
	}
	return kept
}

// goesBehindAll tells whether an instruction goes to one that is left out, and none
// behind that one stays. It is never done: what is come to at the end stays.
func goesBehindAll(ins []in) bool {
	kept := modelPeep(ins)
	return slices.ContainsFunc(kept, func(i in) bool { return modelIns[i.Op].names == "J" && i.Arg == int64(len(kept)) })
}
