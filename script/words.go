package script

import "leat/api"

// word: what stands for a number of package api's.
type word struct{ text string }

// wordOf: of a number without a word a question mark.
func wordOf(words map[int]word, n int) string {
	if w, ok := words[n]; ok {
		return w.text
	}
	return "?"
}

func kinds() map[int]word {
	return map[int]word{
		api.NodeSource: {"source"},
		api.NodeMap:    {"map"},
		api.NodeFilter: {"filter"},
		api.NodeKey:    {"key"},
		api.NodeUnion:  {"union"},
		api.NodeReduce: {"reduce"},
		api.NodeWindow: {"window"},
		api.NodeSink:   {"sink"},
	}
}

func aggregates() map[int]word {
	return map[int]word{
		api.AggSum:   {"sum"},
		api.AggCount: {"count"},
		api.AggMin:   {"min"},
		api.AggMax:   {"max"},
		api.AggXor:   {"xor"},
	}
}

func windows() map[int]word {
	return map[int]word{
		api.WinTumbling: {"tumbling"},
		api.WinSliding:  {"sliding"},
		api.WinSession:  {"session"},
	}
}

func statuses() map[int]word {
	return map[int]word{
		api.Running:  {"running"},
		api.Finished: {"finished"},
		api.Rejected: {"rejected"},
	}
}
