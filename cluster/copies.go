package cluster

import (
	"slices"

	"leat/api"
)

// copyOfJob: in memory of its own.
func copyOfJob(j api.Job) api.Job {
	nodes := slices.Clone(j.Nodes)
	for i := range nodes {
		nodes[i].In = slices.Clone(nodes[i].In)
		nodes[i].E = copyOfExpr(nodes[i].E)
	}
	return api.Job{Nodes: nodes}
}

func copyOfExpr(e api.Expr) api.Expr {
	e.L = slices.Clone(e.L)
	for i := range e.L {
		e.L[i] = copyOfExpr(e.L[i])
	}
	return e
}

// copyOfLogs: in memory of its own.
func copyOfLogs(l api.Logs) api.Logs {
	logs := make(api.Logs, len(l))
	for i, partitions := range l {
		for _, items := range partitions {
			logs[i] = append(logs[i], slices.Clone(items))
		}
	}
	return logs
}
