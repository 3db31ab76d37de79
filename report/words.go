package report

import "winnow/api"

// siteWords are the words of sites, each with the node that it is the word of.
var siteWords = [...]struct {
	kind api.NodeKind
	op   api.Op
	word string
}{
	{api.KStore, api.OpNone, "store"},
	{api.KLoad, api.OpNone, "load"},
	{api.KAssert, api.OpNone, "assert"},
	{api.KBinary, api.OpDiv, "division"},
	{api.KBinary, api.OpRem, "remainder"},
}

// verdictWords are, by Kind, what stands between a site's word and the round.
var verdictWords = [...]string{
	api.Unknown:  ": unknown after round ",
	api.Safe:     ": safe in round ",
	api.Definite: ": definite in round ",
}

// What stands behind the round, around the steps and the tape.
const (
	aheadOfSteps = " at step "
	aheadOfTape  = " with tape ["
	behindTape   = "]"
	between      = " "
)
