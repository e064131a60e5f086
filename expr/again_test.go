package expr_test

import (
	"math"
	"math/big"
	"math/rand"
	"slices"
	"strconv"
	"strings"
	"testing"

	"leat/api"
	"leat/expr"
)

// wrap: modulo 2^64, as an int64.
func wrap(n *big.Int) int64 {
	return int64(new(big.Int).And(n, new(big.Int).SetUint64(math.MaxUint64)).Uint64())
}

// bitwise: bit by bit, what f makes of both.
func bitwise(a, b int64, f func(one, other bool) bool) int64 {
	var n uint64
	for i := range 64 {
		if f(uint64(a)>>i&1 == 1, uint64(b)>>i&1 == 1) {
			n |= 1 << i
		}
	}
	return int64(n)
}

// plainValue: as the chapter tells it, over numbers without bounds.
func plainValue(e api.Expr, r api.Record) int64 {
	if plainCheck(e) != api.OK {
		return 0
	}
	var v []int64
	var n []*big.Int
	for _, o := range e.L {
		v = append(v, plainValue(o, r))
		n = append(n, big.NewInt(v[len(v)-1]))
	}
	z := new(big.Int)
	yes := map[bool]int64{true: 1}
	return map[int]func() int64{
		api.ExprConst: func() int64 { return e.N },
		api.ExprKey:   func() int64 { return r.Key },
		api.ExprTime:  func() int64 { return r.Time },
		api.ExprVal:   func() int64 { return r.Val },
		api.ExprAdd:   func() int64 { return wrap(z.Add(n[0], n[1])) },
		api.ExprSub:   func() int64 { return wrap(z.Sub(n[0], n[1])) },
		api.ExprMul:   func() int64 { return wrap(z.Mul(n[0], n[1])) },
		api.ExprMin:   func() int64 { return slices.Min(v) },
		api.ExprMax:   func() int64 { return slices.Max(v) },
		api.ExprXor:   func() int64 { return bitwise(v[0], v[1], func(a, b bool) bool { return a != b }) },
		api.ExprAnd:   func() int64 { return bitwise(v[0], v[1], func(a, b bool) bool { return a && b }) },
		api.ExprLt:    func() int64 { return yes[n[0].Cmp(n[1]) < 0] },
		api.ExprEq:    func() int64 { return yes[n[0].Cmp(n[1]) == 0] },
		api.ExprIf:    func() int64 { return map[bool]int64{true: v[2], false: v[len(v)-2]}[v[0] == 0] },
	}[e.Op]()
}

// plainCheck goes through all of it.
func plainCheck(e api.Expr) api.Errno {
	sound, all, deepest := true, 0, 0
	var walk func(e api.Expr, deep int)
	walk = func(e api.Expr, deep int) {
		n, ok := operands[e.Op]
		sound = sound && ok && n == len(e.L) && (e.N == 0 || e.Op == api.ExprConst)
		all++
		deepest = max(deepest, deep)
		for _, o := range e.L {
			walk(o, deep+1)
		}
	}
	walk(e, 1)
	switch {
	case !sound:
		return api.ErrExprOp
	case all > 32 || deepest > 8:
		return api.ErrExprBig
	}
	return api.OK
}

var words = map[string]int{
	"key": api.ExprKey, "time": api.ExprTime, "val": api.ExprVal, "add": api.ExprAdd, "sub": api.ExprSub,
	"mul": api.ExprMul, "min": api.ExprMin, "max": api.ExprMax, "xor": api.ExprXor, "and": api.ExprAnd,
	"lt": api.ExprLt, "eq": api.ExprEq, "if": api.ExprIf,
}

// parse reads an expression at the beginning of s, and tells what is left.
func parse(t *testing.T, s string) (api.Expr, string) {
	end := strings.IndexAny(s, "(,)")
	if end < 0 {
		end = len(s)
	}
	word, rest := s[:end], s[end:]
	op, ok := words[word]
	if !ok {
		n, err := strconv.ParseInt(strings.TrimPrefix(word, "c"), 10, 64)
		if err != nil || "c"+strconv.FormatInt(n, 10) != word {
			t.Fatalf("P7.3: no word: %q", word)
		}
		return c(n), rest
	}
	e := api.Expr{Op: op}
	if !strings.HasPrefix(rest, "(") {
		return e, rest
	}
	for sep := "("; strings.HasPrefix(rest, sep); sep = ", " {
		var o api.Expr
		o, rest = parse(t, rest[len(sep):])
		e.L = append(e.L, o)
	}
	if !strings.HasPrefix(rest, ")") {
		t.Fatalf("P7.3: no bracket ahead of %q", rest)
	}
	return e, rest[1:]
}

func same(a, b api.Expr) bool {
	return a.Op == b.Op && a.N == b.N && slices.EqualFunc(a.L, b.L, same)
}

func number(r *rand.Rand) int64 {
	edges := []int64{0, 1, -1, 2, -2, 9, 10, 1 << 31, 1 << 32, -1 << 32, 1 << 40, math.MaxInt64, math.MinInt64, math.MaxInt64 - 1, math.MinInt64 + 1}
	switch r.Intn(3) {
	case 0:
		return edges[r.Intn(len(edges))]
	case 1:
		return int64(r.Intn(7)) - 3
	}
	return int64(r.Uint64())
}

// grow: an expression of about so many operators; now and then, if it is asked for, a fault in it.
func grow(r *rand.Rand, size int, faults int) api.Expr {
	e := api.Expr{Op: 1 + r.Intn(4)}
	if size > 1 {
		e.Op = 5 + r.Intn(10)
	}
	if e.Op == api.ExprConst {
		e.N = number(r)
	}
	n := operands[e.Op]
	if r.Intn(1000) < faults {
		switch r.Intn(3) {
		case 0:
			e.Op = r.Intn(20) - 2
		case 1:
			e.N = number(r)
		case 2:
			n = r.Intn(5)
		}
	}
	for left := size - 1; n > 0; n-- {
		part := left / n
		if n > 1 && left > 0 {
			part = r.Intn(left)
		}
		e.L = append(e.L, grow(r, part, faults))
		left -= part
	}
	return e
}

// TestAgainstPlain: random expressions, small and large, sound and not, against what the chapter says.
func TestAgainstPlain(t *testing.T) {
	r := rand.New(rand.NewSource(7))
	met := map[api.Errno]int{}
	for i := range 20000 {
		e := grow(r, 1+r.Intn(40), (i%3)*20)
		want := plainCheck(e)
		met[want]++
		if got := expr.Check(e); got != want {
			t.Fatalf("P7.1: %v: %v, wanted %v", e, got, want)
		}
		for range 3 {
			rec := api.Record{Key: number(r), Time: number(r), Val: number(r)}
			if got, want := expr.Eval(e, rec), plainValue(e, rec); got != want {
				t.Fatalf("P7.2: %s of %v: %d, wanted %d", expr.Text(e), rec, got, want)
			}
		}
		s := expr.Text(e)
		if want != api.OK {
			if s != "" {
				t.Fatalf("P7.3: %v is refused, but its text is %s", e, s)
			}
			continue
		}
		if back, rest := parse(t, s); rest != "" || !same(back, e) {
			t.Fatalf("P7.4: %v and %v have one text, %s", e, back, s)
		}
	}
	for _, e := range []api.Errno{api.OK, api.ErrExprOp, api.ErrExprBig} {
		if met[e] < 500 {
			t.Errorf("%v was met %d times only", e, met[e])
		}
	}
}

// TestUnlikeTexts: all expressions of at most two levels, over some constants: each text but once.
func TestUnlikeTexts(t *testing.T) {
	leaves := []api.Expr{key, at, val}
	for _, n := range []int64{0, 1, -1, 11, 111, -11, math.MinInt64} {
		leaves = append(leaves, c(n))
	}
	all := slices.Clone(leaves)
	for op, n := range operands {
		for i := range leaves {
			for j := range leaves {
				switch n {
				case 2:
					all = append(all, x(op, leaves[i], leaves[j]))
				case 3:
					for k := range leaves {
						all = append(all, x(op, leaves[i], leaves[j], leaves[k]))
					}
				}
			}
		}
	}
	texts := map[string]api.Expr{}
	for _, e := range all {
		s := expr.Text(e)
		if other, ok := texts[s]; ok || s == "" {
			t.Fatalf("P7.4: %v and %v: %q", e, other, s)
		}
		texts[s] = e
	}
}

// TestSameAgain: an answer hangs on nothing but the arguments.
func TestSameAgain(t *testing.T) {
	r := rand.New(rand.NewSource(8))
	for range 2000 {
		e := grow(r, 1+r.Intn(40), 5)
		rec := api.Record{Key: number(r), Time: number(r), Val: number(r)}
		check, value, text := expr.Check(e), expr.Eval(e, rec), expr.Text(e)
		expr.Eval(grow(r, 20, 0), rec)
		if expr.Check(e) != check || expr.Eval(e, rec) != value || expr.Text(e) != text {
			t.Fatalf("DOC 8: %v answers otherwise the second time", e)
		}
	}
}
