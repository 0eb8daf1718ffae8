package tests

import (
	"slices"
	"strconv"
	"strings"

	"loop.example/g00166/impl"
)

// modelPoint is a point: the place of the instruction that laid it, the stack as it
// was, and what is left of an each.
type modelPoint struct {
	place int64
	stack []sample
	left  []sample
}

// modelMachine has lists that are never written to: what is one longer is a new one.
type modelMachine struct {
	ins       []in
	place     int64
	stack     []sample
	points    []modelPoint
	registers []sample
	outs      []cells
}

func longer[T any](list []T, more ...T) []T {
	return append(slices.Clip(list), more...)
}

// modelTurn is what one instruction comes to: nothing (it goes on), that it goes
// back, a code, or that it all ends with one.
type modelTurn struct {
	back, ends bool
	code       int64
}

// step does the instruction at the machine's place.
func (m *modelMachine) step() modelTurn {
	i, at := m.ins[m.place], m.place
	row := modelIns[i.Op]
	rest := len(m.stack) - int(row.takes)
	taken := m.stack[rest:]
	m.stack = m.stack[:rest]
	m.place++
	var answer impl.ValueResult
	switch row.word {
	case "dup":
		return m.lay(taken[0], taken[0])
	case "push":
		return m.lay(sampleOf(i.Val))
	case "swap":
		return m.lay(taken[1], taken[0])
	case "load":
		return m.lay(m.registers[i.Arg])
	case "bin":
		answer = modelBinary(i.Arg, taken[1], taken[0])
	case "at":
		answer = modelGetAt(taken[0], taken[1])
	case "member":
		answer = modelSetKey(taken[0], i.Val[0].Text, taken[1])
	case "do":
		answer = modelNative(i.Arg, taken[0])
	case "each":
		return m.each(at, taken[0])
	case "fork", "try", "alt":
		return m.point(modelPoint{at, m.stack, nil})
	case "append":
		return m.gather(i.Arg, taken[0])
	default:
		return m.other(row.word, i.Arg, taken)
	}
	if answer.Code != 0 {
		return modelTurn{code: answer.Code}
	}
	return m.lay(sampleOf(answer.Value))
}

// other does those that lay nothing and have no code of their own.
func (m *modelMachine) other(word string, arg int64, taken []sample) modelTurn {
	switch word {
	case "jump":
		m.place = arg
	case "unless":
		if modelFalse(taken[0]) == 1 {
			m.place = arg
		}
	case "store":
		m.registers = slices.Clone(m.registers)
		m.registers[arg] = taken[0]
	case "back":
		return modelTurn{back: true}
	case "emit":
		if len(m.outs) == 300 {
			return modelTurn{ends: true, code: impl.ErrMany}
		}
		m.outs = longer(m.outs, taken[0].v)
		return modelTurn{back: true}
	}
	return modelTurn{}
}

func (m *modelMachine) lay(list ...sample) modelTurn {
	if len(m.stack)+len(list) > 200 {
		return modelTurn{ends: true, code: impl.ErrFull}
	}
	m.stack = longer(m.stack, list...)
	return modelTurn{}
}

func (m *modelMachine) point(p modelPoint) modelTurn {
	if len(m.points) == 400 {
		return modelTurn{ends: true, code: impl.ErrFull}
	}
	m.points = longer(m.points, p)
	return modelTurn{}
}

func (m *modelMachine) each(at int64, s sample) modelTurn {
	parts := modelEach(s)
	if parts.Code != 0 {
		return modelTurn{code: parts.Code}
	}
	if len(parts.Parts) == 0 {
		return modelTurn{back: true}
	}
	if len(parts.Parts) > 1 {
		if turn := m.point(modelPoint{at, m.stack, samplesOf(parts.Parts[1:])}); turn.ends {
			return turn
		}
	}
	return m.lay(sampleOf(parts.Parts[0]))
}

func (m *modelMachine) gather(register int64, s sample) modelTurn {
	array := m.registers[register].model
	if array.kind != impl.KindArray {
		return modelTurn{code: impl.ErrKind}
	}
	all := arr(append(layAll(array.kids), s.v)...)
	if fault := modelFault(all); fault != 0 {
		return modelTurn{code: fault}
	}
	m.registers = slices.Clone(m.registers)
	m.registers[register] = sampleOf(all)
	return modelTurn{}
}

// goBack tells whether there was a point.
func (m *modelMachine) goBack() bool {
	last := len(m.points) - 1
	for last >= 0 && m.word(m.points[last]) == "try" {
		last--
	}
	if last < 0 {
		return false
	}
	p := m.points[last]
	m.points, m.stack, m.place = m.points[:last], p.stack, m.ins[p.place].Arg
	if m.word(p) == "each" {
		m.stack, m.place = longer(p.stack, p.left[0]), p.place+1
		if len(p.left) > 1 {
			m.points = longer(m.points, modelPoint{p.place, p.stack, p.left[1:]})
		}
	}
	return true
}

func (m *modelMachine) word(p modelPoint) string {
	return modelIns[m.ins[p.place].Op].word
}

// caught is the last point that is about this place, or -1.
func (m *modelMachine) caught(place int64) int {
	for last, p := range slices.Backward(m.points) {
		if word := m.word(p); (word == "try" || word == "alt") && p.place < place && place < m.ins[p.place].Arg {
			return last
		}
	}
	return -1
}

// turn goes on behind an instruction at this place; it tells the code with which it
// ends, if it does.
func (m *modelMachine) turn(place int64, turn modelTurn) (int64, bool) {
	if turn.ends {
		return turn.code, true
	}
	if turn.code != 0 {
		last := m.caught(place)
		if last < 0 {
			return turn.code, true
		}
		p := m.points[last]
		m.points = m.points[:last]
		if m.word(p) == "alt" {
			m.stack, m.place = p.stack, m.ins[p.place].Arg
			return 0, false
		}
		turn.back = true
	}
	return 0, turn.back && !m.goBack()
}

// history is all that is done with no more than some steps, told step by step;
// counts has, ahead of the first step and behind each, how many outs there are and
// the most values and points that there ever were.
type history struct {
	code   int64
	places []int64
	outs   []cells
	counts [][3]int
}

func modelHistory(ins []in, regs int64, v cells, steps int64) history {
	m := modelMachine{ins: ins, stack: []sample{sampleOf(v)}, registers: slices.Repeat([]sample{sampleOf(null())}, int(regs))}
	h := history{code: impl.ErrFuel, counts: [][3]int{{0, 1, 0}}}
	for range steps {
		at := m.place
		h.places = append(h.places, at)
		turn := m.step()
		most := h.counts[len(h.counts)-1]
		h.counts = append(h.counts, [3]int{len(m.outs), max(most[1], len(m.stack)), max(most[2], len(m.points))})
		if code, ends := m.turn(at, turn); ends {
			h.code = code
			break
		}
	}
	h.outs = m.outs
	return h
}

// run is what RunCode tells with that many steps, no more than the history has
// been made with.
func (h history) run(steps int64) impl.RunResult {
	n := min(steps, int64(len(h.places)))
	return impl.RunResult{Code: h.codeWith(steps), Spent: n, Outs: h.outs[:h.counts[n][0]]}
}

func (h history) trace(steps int64) impl.TraceResult {
	n := min(steps, int64(len(h.places)))
	return impl.TraceResult{Code: h.codeWith(steps), Places: h.places[:min(n, 1000)], Stack: int64(h.counts[n][1]), Forks: int64(h.counts[n][2])}
}

func (h history) codeWith(steps int64) int64 {
	if steps < int64(len(h.places)) {
		return impl.ErrFuel
	}
	return h.code
}

// tracedAs is a trace as a text: the places, "!" and the code, if it is one, "^" and
// the most values, "*" and the most points.
func tracedAs(r impl.TraceResult) string {
	var words []string
	for _, place := range r.Places {
		words = append(words, strconv.FormatInt(place, 10))
	}
	if r.Code != 0 {
		words = append(words, code(r.Code))
	}
	return strings.Join(append(words, "^"+strconv.FormatInt(r.Stack, 10), "*"+strconv.FormatInt(r.Forks, 10)), " ")
}

func sameTrace(a, b impl.TraceResult) bool {
	return a.Code == b.Code && slices.Equal(a.Places, b.Places) && a.Stack == b.Stack && a.Forks == b.Forks
}
