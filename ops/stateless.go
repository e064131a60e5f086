package ops

import (
	"leat/api"
	"leat/expr"
)

// stateless: what all operators without a state have in common.
type stateless struct{}

func (stateless) record(api.Record) []api.Record { return nil }

func (stateless) mark(int64) []api.Record { return nil }

func (stateless) panes() []api.Pane { return nil }

func (stateless) load([]api.Pane) {}

func (stateless) late() int { return 0 }

// passing: of a source, a union, a sink.
type passing struct{ stateless }

func (passing) record(r api.Record) []api.Record { return []api.Record{r} }

type mapping struct {
	stateless
	e api.Expr
}

func (o mapping) record(r api.Record) []api.Record {
	return []api.Record{{Key: r.Key, Time: r.Time, Val: expr.Eval(o.e, r)}}
}

type filter struct {
	stateless
	e api.Expr
}

func (o filter) record(r api.Record) []api.Record {
	if expr.Eval(o.e, r) == 0 {
		return nil
	}
	return []api.Record{r}
}

type keying struct {
	stateless
	e api.Expr
}

func (o keying) record(r api.Record) []api.Record {
	return []api.Record{{Key: expr.Eval(o.e, r), Time: r.Time, Val: r.Val}}
}

// own: an expression in memory of its own, as the caller may write over his. One that is refused may have no end; none at all tells 0 just as well.
func own(e api.Expr) api.Expr {
	if expr.Check(e) != api.OK {
		return api.Expr{}
	}
	return copied(e)
}

// copied: of an expression that is checked.
func copied(e api.Expr) api.Expr {
	operands := make([]api.Expr, len(e.L))
	for i, x := range e.L {
		operands[i] = copied(x)
	}
	return api.Expr{Op: e.Op, N: e.N, L: operands}
}
