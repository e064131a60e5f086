package expr_test

import (
	"math"
	"slices"
	"strconv"
	"testing"

	"leat/api"
	"leat/expr"
)

func c(n int64) api.Expr { return api.Expr{Op: api.ExprConst, N: n} }

func x(op int, l ...api.Expr) api.Expr { return api.Expr{Op: op, L: l} }

var (
	key  = api.Expr{Op: api.ExprKey}
	at   = api.Expr{Op: api.ExprTime}
	val  = api.Expr{Op: api.ExprVal}
	some = api.Record{Key: 3, Time: -7, Val: 4}
)

// operands: how many each operator has, by the chapter's words.
var operands = map[int]int{
	api.ExprConst: 0, api.ExprKey: 0, api.ExprTime: 0, api.ExprVal: 0, api.ExprIf: 3,
	api.ExprAdd: 2, api.ExprSub: 2, api.ExprMul: 2, api.ExprMin: 2, api.ExprMax: 2,
	api.ExprXor: 2, api.ExprAnd: 2, api.ExprLt: 2, api.ExprEq: 2,
}

// checks: Check answers so; of what is refused Eval and Text tell nothing, of the rest Text tells something.
func checks(t *testing.T, what string, e api.Expr, want api.Errno) {
	t.Helper()
	if got := expr.Check(e); got != want {
		t.Errorf("P7.1: %s: %v, wanted %v", what, got, want)
	}
	if got := expr.Eval(e, some); want != api.OK && got != 0 {
		t.Errorf("P7.2: %s: it is refused, but tells %d", what, got)
	}
	if got := expr.Text(e); (got == "") != (want != api.OK) {
		t.Errorf("P7.3: %s: its text is %q", what, got)
	}
}

func tells(t *testing.T, e api.Expr, r api.Record, want int64) {
	t.Helper()
	if got := expr.Eval(e, r); got != want {
		t.Errorf("P7.2: %s of %v: %d, wanted %d", expr.Text(e), r, got, want)
	}
}

func reads(t *testing.T, e api.Expr, want string) {
	t.Helper()
	if got := expr.Text(e); got != want {
		t.Errorf("P7.3: %s, wanted %s", got, want)
	}
}

func copies(e api.Expr, n int) []api.Expr { return slices.Repeat([]api.Expr{e}, n) }

// chain: n deep, two operators a step; at its end e.
func chain(n int, e api.Expr) api.Expr {
	for range n - 1 {
		e = x(api.ExprAdd, key, e)
	}
	return e
}

// level: of n operators, as flat as may be; with one ExprIf, if n is even.
func level(n int) api.Expr {
	switch {
	case n == 1:
		return val
	case n%2 == 0:
		return x(api.ExprIf, val, val, level(n-3))
	}
	left := (n - 1) / 2
	if left%2 == 0 {
		left--
	}
	return x(api.ExprAdd, level(left), level(n-1-left))
}

func TestNumbers(t *testing.T) {
	if api.ErrExprOp != 70 || api.ErrExprBig != 71 || api.MaxExpr != 32 || api.MaxDepth != 8 {
		t.Error("P7.1: the numbers of the errors, the limits")
	}
}

func TestExamples(t *testing.T) {
	a := x(api.ExprAdd, x(api.ExprMul, key, c(2)), val)
	checks(t, "example", a, api.OK)
	reads(t, a, "add(mul(key, c2), val)")
	tells(t, a, api.Record{Key: 3, Val: 4}, 10)
	b := x(api.ExprIf, x(api.ExprLt, val, c(0)), c(-1), c(1))
	checks(t, "example", b, api.OK)
	reads(t, b, "if(lt(val, c0), c-1, c1)")
	tells(t, b, api.Record{Val: -5}, -1)
	tells(t, b, api.Record{Val: 0}, 1)
}

// TestOperators: each number of an operator, with each number of operands, with and without N.
func TestOperators(t *testing.T) {
	ops := []int{math.MinInt, math.MinInt32, -5, -1, 1<<8 + 5, 1<<16 + 5, 1<<32 + 1, 1<<32 + 5, math.MaxInt}
	for op := range 40 {
		ops = append(ops, op)
	}
	for _, op := range ops {
		for n := range 7 {
			for _, number := range []int64{0, 1, -1, 1 << 32, math.MinInt64, math.MaxInt64} {
				e := api.Expr{Op: op, N: number, L: copies(val, n)}
				want := api.ErrExprOp
				if has, ok := operands[op]; ok && has == n && (number == 0 || op == api.ExprConst) {
					want = api.OK
				}
				what := "operator " + strconv.Itoa(op) + " with " + strconv.Itoa(n) + " operands, N " + strconv.FormatInt(number, 10)
				checks(t, what, e, want)
				checks(t, "first of two: "+what, x(api.ExprAdd, e, val), want)
				checks(t, "last of two: "+what, x(api.ExprLt, key, e), want)
				checks(t, "first of three: "+what, x(api.ExprIf, e, at, val), want)
				checks(t, "second of three: "+what, x(api.ExprIf, at, e, val), want)
				checks(t, "third of three: "+what, x(api.ExprIf, at, val, e), want)
			}
		}
	}
}

func TestManyOperands(t *testing.T) {
	many := copies(val, 1<<20)
	for op := range operands {
		checks(t, "many operands", x(op, many...), api.ErrExprOp)
		checks(t, "many operands within", x(api.ExprSub, val, x(op, many...)), api.ErrExprOp)
	}
}

// TestNilAndEmpty: no list of operands, and an empty one, are the same.
func TestNilAndEmpty(t *testing.T) {
	for _, e := range []api.Expr{c(5), key, at, val} {
		empty := e
		empty.L = make([]api.Expr, 0, 3)
		checks(t, "an empty list", empty, api.OK)
		reads(t, empty, expr.Text(e))
		tells(t, empty, some, expr.Eval(e, some))
	}
	checks(t, "an empty list", x(api.ExprAdd, []api.Expr{}...), api.ErrExprOp)
	checks(t, "nothing", api.Expr{}, api.ErrExprOp)
}

// TestOperatorsInAll: constants and fields count as operators.
func TestOperatorsInAll(t *testing.T) {
	for n := 1; n <= 80; n++ {
		if n == 2 {
			continue // there is none of two
		}
		want := api.OK
		if n > 32 {
			want = api.ErrExprBig
		}
		checks(t, strconv.Itoa(n)+" operators", level(n), want)
	}
}

func TestDeep(t *testing.T) {
	for n := 1; n <= 40; n++ {
		want := api.OK
		if n > 8 {
			want = api.ErrExprBig
		}
		checks(t, strconv.Itoa(n)+" deep", chain(n, val), want)
		last := val
		for range n - 1 {
			last = x(api.ExprIf, last, key, at)
		}
		checks(t, strconv.Itoa(n)+" deep at the first operand", last, want)
	}
	checks(t, "8 deep at both", x(api.ExprAdd, chain(7, val), chain(7, c(1))), api.OK)
	checks(t, "9 deep at one", x(api.ExprAdd, chain(7, val), chain(8, c(1))), api.ErrExprBig)
}

// TestFaultBehindLimits: that an operator is none is told ahead of that all is too large, wherever it stands.
func TestFaultBehindLimits(t *testing.T) {
	faults := []api.Expr{{}, x(15), x(-1), x(api.ExprAdd, val), x(api.ExprIf, val, val), {Op: api.ExprVal, N: 1}, x(api.ExprConst, val), {Op: api.ExprEq, N: 2, L: copies(val, 2)}}
	for _, bad := range faults {
		for _, n := range []int{1, 7, 8, 9, 10, 11, 100, 1 << 16} {
			checks(t, "a fault "+strconv.Itoa(n)+" deep", chain(n, bad), api.ErrExprOp)
			checks(t, "a fault ahead of what is deep", x(api.ExprAdd, bad, chain(n, val)), api.ErrExprOp)
			checks(t, "a fault behind what is deep", x(api.ExprAdd, chain(n, val), bad), api.ErrExprOp)
		}
		for _, n := range []int{31, 33, 63, 1001} {
			checks(t, "a fault ahead of what is large", x(api.ExprAdd, bad, level(n)), api.ErrExprOp)
			checks(t, "a fault behind what is large", x(api.ExprAdd, level(n), bad), api.ErrExprOp)
			checks(t, "a fault amidst what is large", x(api.ExprIf, level(n), bad, level(n)), api.ErrExprOp)
		}
	}
}

func TestVeryLarge(t *testing.T) {
	checks(t, "very deep", chain(1<<16, val), api.ErrExprBig)
	checks(t, "very large", level(1<<20+1), api.ErrExprBig)
}

// TestSharedOperands: few lists that stand, unfolded, for more operators than could ever be gone through.
func TestSharedOperands(t *testing.T) {
	for _, y := range []struct {
		end  api.Expr
		want api.Errno
	}{{val, api.ErrExprBig}, {x(15), api.ErrExprOp}, {x(api.ExprAdd, val), api.ErrExprOp}} {
		twice, thrice := y.end, y.end
		one, other := y.end, x(api.ExprAdd, y.end, val)
		for range 1000 {
			twice = x(api.ExprMul, twice, twice)
			thrice = x(api.ExprIf, thrice, thrice, thrice)
			one, other = other, x(api.ExprAdd, one, other)
		}
		checks(t, "the same twice", twice, y.want)
		checks(t, "the same thrice", thrice, y.want)
		checks(t, "the last two", other, y.want)
	}
}

// TestSharedBeginning: two lists of operands that begin at one place, but one of them is longer: what it has more counts.
func TestSharedBeginning(t *testing.T) {
	for _, y := range []struct {
		third api.Expr
		want  api.Errno
	}{{key, api.ErrExprBig}, {api.Expr{}, api.ErrExprOp}} {
		list := []api.Expr{chain(20, val), val, y.third}
		short, long := x(api.ExprAdd, list[:2]...), x(api.ExprIf, list...)
		checks(t, "the short one alone", short, api.ErrExprBig)
		checks(t, "the short one first", x(api.ExprAdd, short, long), y.want)
		checks(t, "the long one first", x(api.ExprAdd, long, short), y.want)
		checks(t, "a list's end", x(api.ExprAdd, short, x(api.ExprAdd, list[1:]...)), y.want)
	}
}

// TestRound: an expression that is within itself has no end, but the calls do.
func TestRound(t *testing.T) {
	for _, y := range []struct {
		other api.Expr
		want  api.Errno
	}{{val, api.ErrExprBig}, {api.Expr{}, api.ErrExprOp}} {
		first, last := x(api.ExprAdd, val, y.other), x(api.ExprAdd, y.other, val)
		first.L[0], last.L[1] = first, last
		checks(t, "within itself, first", first, y.want)
		checks(t, "within itself, last", last, y.want)
	}
}

func TestFields(t *testing.T) {
	for _, r := range []api.Record{{}, some, {Key: math.MinInt64, Time: math.MaxInt64, Val: -1}, {Key: 1 << 40, Time: 1 << 41, Val: 1<<63 - 1}} {
		tells(t, key, r, r.Key)
		tells(t, at, r, r.Time)
		tells(t, val, r, r.Val)
		for _, n := range []int64{0, 1, -1, math.MinInt64, math.MaxInt64} {
			tells(t, c(n), r, n)
		}
	}
}

func TestArithmetic(t *testing.T) {
	const least, most = math.MinInt64, math.MaxInt64
	for _, y := range []struct {
		op         int
		a, b, want int64
	}{
		{api.ExprAdd, 2, 3, 5}, {api.ExprAdd, -2, 1, -1}, {api.ExprAdd, most, 1, least}, {api.ExprAdd, least, -1, most}, {api.ExprAdd, least, least, 0}, {api.ExprAdd, most, most, -2},
		{api.ExprSub, 2, 3, -1}, {api.ExprSub, 3, 2, 1}, {api.ExprSub, least, 1, most}, {api.ExprSub, 0, least, least}, {api.ExprSub, -1, least, most}, {api.ExprSub, most, -1, least}, {api.ExprSub, least, least, 0},
		{api.ExprMul, 3, -4, -12}, {api.ExprMul, least, -1, least}, {api.ExprMul, least, 2, 0}, {api.ExprMul, most, most, 1}, {api.ExprMul, 1 << 32, 1 << 32, 0}, {api.ExprMul, 1 << 32, 1 << 31, least}, {api.ExprMul, most, 2, -2},
		{api.ExprMin, 2, 3, 2}, {api.ExprMin, 3, 2, 2}, {api.ExprMin, least, most, least}, {api.ExprMin, -1, 0, -1}, {api.ExprMin, 5, 5, 5},
		{api.ExprMax, 2, 3, 3}, {api.ExprMax, 3, 2, 3}, {api.ExprMax, least, most, most}, {api.ExprMax, -1, 0, 0}, {api.ExprMax, 5, 5, 5},
		{api.ExprXor, 6, 3, 5}, {api.ExprXor, -1, 0, -1}, {api.ExprXor, -1, most, least}, {api.ExprXor, 7, 7, 0},
		{api.ExprAnd, 6, 3, 2}, {api.ExprAnd, -1, 12, 12}, {api.ExprAnd, least, most, 0}, {api.ExprAnd, least, -1, least}, {api.ExprAnd, 4, 3, 0},
		{api.ExprLt, 2, 3, 1}, {api.ExprLt, 3, 2, 0}, {api.ExprLt, 3, 3, 0}, {api.ExprLt, least, most, 1}, {api.ExprLt, most, least, 0}, {api.ExprLt, -1, 0, 1}, {api.ExprLt, 0, -1, 0}, {api.ExprLt, least, 1, 1},
		{api.ExprEq, 2, 3, 0}, {api.ExprEq, 3, 2, 0}, {api.ExprEq, 3, 3, 1}, {api.ExprEq, 0, 1 << 32, 0}, {api.ExprEq, least, least, 1}, {api.ExprEq, least, most, 0},
	} {
		tells(t, x(y.op, c(y.a), c(y.b)), some, y.want)
		tells(t, x(y.op, key, val), api.Record{Key: y.a, Val: y.b}, y.want)
		tells(t, x(y.op, val, at), api.Record{Val: y.a, Time: y.b}, y.want)
	}
}

func TestIf(t *testing.T) {
	e := x(api.ExprIf, key, at, val)
	for _, n := range []int64{1, -1, 2, 1 << 32, math.MinInt64, math.MaxInt64} {
		tells(t, e, api.Record{Key: n, Time: 5, Val: 6}, 5)
	}
	tells(t, e, api.Record{Key: 0, Time: 5, Val: 6}, 6)
}

func TestTexts(t *testing.T) {
	for n, want := range map[int64]string{
		0: "c0", 1: "c1", -1: "c-1", 10: "c10", -10: "c-10", 1 << 40: "c1099511627776",
		math.MaxInt64: "c9223372036854775807", math.MinInt64: "c-9223372036854775808",
	} {
		reads(t, c(n), want)
	}
	reads(t, key, "key")
	reads(t, at, "time")
	reads(t, val, "val")
	for op, word := range map[int]string{
		api.ExprAdd: "add", api.ExprSub: "sub", api.ExprMul: "mul", api.ExprMin: "min", api.ExprMax: "max",
		api.ExprXor: "xor", api.ExprAnd: "and", api.ExprLt: "lt", api.ExprEq: "eq",
	} {
		reads(t, x(op, key, c(-3)), word+"(key, c-3)")
		reads(t, x(op, x(op, val, at), x(op, c(0), key)), word+"("+word+"(val, time), "+word+"(c0, key))")
	}
	reads(t, x(api.ExprIf, key, at, val), "if(key, time, val)")
	reads(t, x(api.ExprIf, x(api.ExprIf, c(1), c(2), c(3)), at, x(api.ExprEq, val, key)), "if(if(c1, c2, c3), time, eq(val, key))")
	reads(t, chain(8, val), "add(key, add(key, add(key, add(key, add(key, add(key, add(key, val)))))))")
}

// TestLeftAlone: neither the operands nor the room behind them are changed, and an answer doesn't hang on that room.
func TestLeftAlone(t *testing.T) {
	for _, large := range []bool{false, true} {
		inner := []api.Expr{key, val, at, {Op: 77, N: 7}}
		list := []api.Expr{x(api.ExprSub, inner[:2]...), c(5), c(6), {Op: 99, N: 9}}
		if large {
			list[1] = chain(30, val)
		}
		e := x(api.ExprAdd, list[:2]...)
		want, what := int64(4), "add(sub(key, val), c5)"
		if large {
			want, what = 0, ""
		}
		for range 2 {
			tells(t, e, some, want)
			reads(t, e, what)
		}
		if expr.Check(e) == api.ErrExprOp {
			t.Error("DOC 3: the room behind a list was asked")
		}
		if list[3].Op != 99 || list[3].N != 9 || list[2].N != 6 || inner[2].Op != api.ExprTime || inner[3].Op != 77 || list[0].Op != api.ExprSub || &list[0].L[0] != &inner[0] {
			t.Error("DOC 3: what was handed in has changed")
		}
	}
}
