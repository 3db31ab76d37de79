package report

import (
	"strings"

	"winnow/api"
	"winnow/word"
)

// sendLines sends the line of each site, in their order, and closes the channel.
func sendLines(p api.Prog, verdicts []api.Verdict, told chan<- string) {
	for site, verdict := range verdicts {
		told <- opening(site) + siteWord(p.Nodes[p.Sites[site]]) + telling(verdict)
	}
	close(told)
}

// opening is what stands ahead of a site's word.
func opening(site int) string { return "site " + word.Print(int64(site)) + " " }

// siteWord is the word of a site's node.
func siteWord(n api.Node) string {
	for _, w := range siteWords {
		if w.kind == n.Kind && w.op == n.Op {
			return w.word
		}
	}
	return ""
}

// telling is what stands behind a site's word, of a verdict that may be.
func telling(v api.Verdict) string {
	text := verdictWords[v.Kind] + word.Print(int64(v.Round))
	if v.Kind == api.Definite {
		text += aheadOfSteps + word.Print(int64(v.Steps)) + aheadOfTape + numbers(v.Tape) + behindTape
	}
	return text
}

// numbers is a tape's numbers, between their brackets.
func numbers(tape []int64) string {
	texts := make([]string, len(tape))
	for i, v := range tape {
		texts[i] = word.Print(v)
	}
	return strings.Join(texts, between)
}
