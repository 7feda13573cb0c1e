package doc

import (
	"surcingle/api"
	"surcingle/ranges"
)

// setOf tells the set of Ids of items.
func setOf(l []api.Id) []api.Span {
	spans := make([]api.Span, 0, len(l))
	for _, a := range l {
		spans = append(spans, api.Span{Client: a.Client, From: a.Clock, To: a.Clock + 1})
	}
	return ranges.Of(spans)
}

// without tells the set of what is in a, but not in b. Each batch tells all that its replica has deleted: to ask one by one of all that has been deleted here already would take long.
func without(a, b []api.Span) []api.Span {
	var told []api.Span
	for _, s := range a {
		for len(b) > 0 && ahead(b[0], s) {
			b = b[1:]
		}
		told = append(told, cut(s, b)...)
	}
	return told
}

// ahead tells whether a span ends ahead of another one.
func ahead(a, b api.Span) bool {
	return a.Client < b.Client || a.Client == b.Client && a.To <= b.From
}

// cut tells what of a span isn't in a set, none of whose spans ends ahead of it.
func cut(s api.Span, set []api.Span) []api.Span {
	var told []api.Span
	for _, other := range set {
		if ahead(s, other) {
			break
		}
		if s.From < other.From {
			told = append(told, api.Span{Client: s.Client, From: s.From, To: other.From})
		}
		s.From = other.To
	}
	if s.From < s.To {
		told = append(told, s)
	}
	return told
}
