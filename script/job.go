package script

import (
	"strconv"
	"strings"

	"leat/api"
	"leat/expr"
)

// Job: see the chapter.
func Job(j api.Job) string {
	var b strings.Builder
	for number, n := range j.Nodes {
		b.WriteString(strconv.Itoa(number))
		for _, part := range nodeParts(n) {
			b.WriteString(" " + part)
		}
		b.WriteByte('\n')
	}
	return b.String()
}

// nodeParts: what a line tells behind the node's number.
func nodeParts(n api.Node) []string {
	parts := []string{wordOf(kinds(), n.Kind)}
	if len(n.In) > 0 {
		parts = append(parts, "in", numbers(n.In))
	}
	parts = append(parts, "par", strconv.Itoa(n.Par))
	switch n.Kind {
	case api.NodeMap, api.NodeFilter, api.NodeKey:
		parts = append(parts, expr.Text(n.E))
	case api.NodeReduce:
		parts = append(parts, wordOf(aggregates(), n.Agg))
	case api.NodeWindow:
		parts = append(parts, wordOf(aggregates(), n.Agg))
		parts = append(parts, windowParts(n.Win)...)
	}
	return parts
}

func windowParts(w api.Window) []string {
	parts := []string{wordOf(windows(), w.Kind)}
	switch w.Kind {
	case api.WinTumbling, api.WinSession:
		parts = append(parts, decimal(w.Size))
	case api.WinSliding:
		parts = append(parts, decimal(w.Size), decimal(w.Slide))
	}
	return parts
}

func numbers(l []int) string {
	var texts []string
	for _, n := range l {
		texts = append(texts, strconv.Itoa(n))
	}
	return strings.Join(texts, ",")
}
