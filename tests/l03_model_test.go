package tests

import (
	"encoding/json"
	"maps"
	"math/big"
	"slices"
	"strings"

	"loop.example/g00166/impl"
)

// What is done with values is told here of the library's own lists, maps and
// big numbers.

// sample is a value with all that the model asks of it, worked out once.
type sample struct {
	v     cells
	fault int64
	model model
	tree  any
}

func sampleOf(v cells) sample {
	s := sample{v: v, fault: modelFault(v)}
	if s.fault == 0 {
		s.model, _ = readModel(v)
		d := json.NewDecoder(strings.NewReader(s.model.json()))
		d.UseNumber()
		if err := d.Decode(&s.tree); err != nil {
			panic(err)
		}
	}
	return s
}

func samplesOf(list []cells) []sample {
	var samples []sample
	for _, v := range list {
		samples = append(samples, sampleOf(v))
	}
	return samples
}

func failing(code int64) impl.ValueResult {
	return impl.ValueResult{Code: code}
}

// made is the answer that tells a value, or what is wrong with it.
func made(v cells) impl.ValueResult {
	if code := modelFault(v); code != 0 {
		return failing(code)
	}
	return impl.ValueResult{Value: v}
}

func madeNumber(n *big.Int) impl.ValueResult {
	if n.CmpAbs(big.NewInt(1000000000000000)) > 0 {
		return failing(impl.ErrRange)
	}
	return made(num(n.Int64()))
}

func madeBool(b bool) impl.ValueResult {
	return made(cellsOf(b))
}

func modelGetKey(s sample, key string) impl.ValueResult {
	if s.fault != 0 {
		return failing(s.fault)
	}
	if badText(key) {
		return failing(impl.ErrText)
	}
	switch x := s.tree.(type) {
	case nil:
		return made(null())
	case map[string]any:
		return made(cellsOf(x[key]))
	}
	return failing(impl.ErrKind)
}

func modelGetIndex(s sample, n int64) impl.ValueResult {
	if s.fault != 0 {
		return failing(s.fault)
	}
	switch x := s.tree.(type) {
	case nil:
		return made(null())
	case []any:
		for i, part := range x {
			if n == int64(i) || n == int64(i)-int64(len(x)) {
				return made(cellsOf(part))
			}
		}
		return made(null())
	}
	return failing(impl.ErrKind)
}

func modelGetAt(s, at sample) impl.ValueResult {
	if s.fault != 0 {
		return failing(s.fault)
	}
	if at.fault != 0 {
		return failing(at.fault)
	}
	switch x := at.tree.(type) {
	case string:
		return modelGetKey(s, x)
	case json.Number:
		return modelGetIndex(s, at.model.num)
	}
	return failing(impl.ErrKind)
}

func modelEach(s sample) impl.PartsResult {
	if s.fault != 0 {
		return impl.PartsResult{Code: s.fault}
	}
	if s.model.kind != impl.KindArray && s.model.kind != impl.KindObject {
		return impl.PartsResult{Code: impl.ErrKind}
	}
	return impl.PartsResult{Parts: treeParts(s.tree)}
}

func treeParts(tree any) []cells {
	var parts []cells
	switch x := tree.(type) {
	case []any:
		for _, part := range x {
			parts = append(parts, cellsOf(part))
		}
	case map[string]any:
		for _, key := range slices.Sorted(maps.Keys(x)) {
			parts = append(parts, cellsOf(x[key]))
		}
	}
	return parts
}

func modelBinary(op int64, a, b sample) impl.ValueResult {
	if a.fault != 0 {
		return failing(a.fault)
	}
	if b.fault != 0 {
		return failing(b.fault)
	}
	order := modelOrder(a.model, b.model)
	switch op {
	case impl.OpAdd:
		return modelAdd(a, b)
	case impl.OpSub, impl.OpMul, impl.OpDiv, impl.OpMod:
		return modelReckon(op, a, b)
	case impl.OpEq:
		return madeBool(order == 0)
	case impl.OpNe:
		return madeBool(order != 0)
	case impl.OpLt:
		return madeBool(order == -1)
	case impl.OpLe:
		return madeBool(order != 1)
	case impl.OpGt:
		return madeBool(order == 1)
	case impl.OpGe:
		return madeBool(order != -1)
	}
	return failing(impl.ErrForm)
}

func modelAdd(a, b sample) impl.ValueResult {
	if a.tree == nil {
		return made(b.v)
	}
	if b.tree == nil {
		return made(a.v)
	}
	if a.model.kind != b.model.kind {
		return failing(impl.ErrKind)
	}
	switch x := a.tree.(type) {
	case json.Number:
		return madeNumber(new(big.Int).Add(big.NewInt(a.model.num), big.NewInt(b.model.num)))
	case string:
		return made(str(x + b.tree.(string)))
	case []any:
		return made(cellsOf(slices.Concat(x, b.tree.([]any))))
	case map[string]any:
		both := maps.Clone(x)
		maps.Copy(both, b.tree.(map[string]any))
		return made(cellsOf(both))
	}
	return failing(impl.ErrKind)
}

func modelReckon(op int64, a, b sample) impl.ValueResult {
	if op == impl.OpSub && a.model.kind == impl.KindArray && b.model.kind == impl.KindArray {
		left := slices.DeleteFunc(slices.Clone(a.model.kids), func(m model) bool {
			return slices.ContainsFunc(b.model.kids, func(other model) bool { return modelOrder(m, other) == 0 })
		})
		return made(arr(layAll(left)...))
	}
	if a.model.kind != impl.KindNumber || b.model.kind != impl.KindNumber {
		return failing(impl.ErrKind)
	}
	x, y := big.NewInt(a.model.num), big.NewInt(b.model.num)
	switch op {
	case impl.OpSub:
		return madeNumber(x.Sub(x, y))
	case impl.OpMul:
		return madeNumber(x.Mul(x, y))
	}
	if y.Sign() == 0 {
		return failing(impl.ErrRange)
	}
	if op == impl.OpDiv {
		return madeNumber(x.Quo(x, y))
	}
	return madeNumber(x.Rem(x, y))
}

func (m model) lay() cells {
	v := cells{{Kind: m.kind, Num: m.num, Text: m.text, N: int64(len(m.kids))}}
	for i, kid := range m.kids {
		v = append(v, member(m.keys[i], kid.lay())...)
	}
	return v
}

func layAll(list []model) []cells {
	var all []cells
	for _, m := range list {
		all = append(all, m.lay())
	}
	return all
}

func modelLength(s sample) impl.ValueResult {
	if s.fault != 0 {
		return failing(s.fault)
	}
	switch x := s.tree.(type) {
	case nil:
		return made(num(0))
	case json.Number:
		return madeNumber(new(big.Int).Abs(big.NewInt(s.model.num)))
	case string:
		return made(num(int64(len(x))))
	case []any:
		return made(num(int64(len(x))))
	case map[string]any:
		return made(num(int64(len(x))))
	}
	return failing(impl.ErrKind)
}

func modelKeys(s sample) impl.ValueResult {
	if s.fault != 0 {
		return failing(s.fault)
	}
	var list []cells
	switch x := s.tree.(type) {
	case []any:
		for i := range x {
			list = append(list, num(int64(i)))
		}
		return made(arr(list...))
	case map[string]any:
		for _, key := range slices.Sorted(maps.Keys(x)) {
			list = append(list, str(key))
		}
		return made(arr(list...))
	}
	return failing(impl.ErrKind)
}

func modelSort(s sample) impl.ValueResult {
	if s.fault != 0 {
		return failing(s.fault)
	}
	if s.model.kind != impl.KindArray {
		return failing(impl.ErrKind)
	}
	// Put one after the other behind those that are no greater.
	var sorted []model
	for _, kid := range s.model.kids {
		at := 0
		for at < len(sorted) && modelOrder(sorted[at], kid) <= 0 {
			at++
		}
		sorted = slices.Insert(sorted, at, kid)
	}
	return made(arr(layAll(sorted)...))
}

func modelType(s sample) impl.ValueResult {
	if s.fault != 0 {
		return failing(s.fault)
	}
	switch s.tree.(type) {
	case nil:
		return made(str("null"))
	case bool:
		return made(str("boolean"))
	case json.Number:
		return made(str("number"))
	case string:
		return made(str("string"))
	case []any:
		return made(str("array"))
	}
	return made(str("object"))
}

func modelAddAll(s sample) impl.ValueResult {
	each := modelEach(s)
	if each.Code != 0 {
		return failing(each.Code)
	}
	sum := made(null())
	for _, part := range each.Parts {
		sum = modelAdd(sampleOf(sum.Value), sampleOf(part))
		if sum.Code != 0 {
			return sum
		}
	}
	return sum
}

func modelSetKey(s sample, key string, x sample) impl.ValueResult {
	if s.fault != 0 {
		return failing(s.fault)
	}
	if x.fault != 0 {
		return failing(x.fault)
	}
	if badText(key) {
		return failing(impl.ErrText)
	}
	members, ok := s.tree.(map[string]any)
	if !ok && s.tree != nil {
		return failing(impl.ErrKind)
	}
	with := map[string]any{key: x.tree}
	for old, part := range members {
		if old != key {
			with[old] = part
		}
	}
	return made(cellsOf(with))
}

func modelDropKey(s sample, key string) impl.ValueResult {
	if s.fault != 0 {
		return failing(s.fault)
	}
	if badText(key) {
		return failing(impl.ErrText)
	}
	switch x := s.tree.(type) {
	case nil:
		return made(null())
	case map[string]any:
		without := maps.Clone(x)
		delete(without, key)
		return made(cellsOf(without))
	}
	return failing(impl.ErrKind)
}
