package plan_test

import (
	"testing"

	"leat/api"
	"leat/plan"
)

// TestReadme: what README.md tells of a plan.
func TestReadme(t *testing.T) {
	w := node(api.NodeWindow, 2, 0)
	w.Win = api.Window{Kind: api.WinSliding, Size: 10, Slide: 3}
	j := taken(t, source(1), w, sink(1, 1))
	p := plan.Make(j)
	same(t, "from 0", plan.From(p, 0), 0, 1)
	same(t, "the outs of 0", plan.Outs(j, p, 0, 1), 1)
	same(t, "to 3", plan.To(p, 3), 2, 3)
}
