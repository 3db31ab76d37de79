package refine

import (
	"sync"

	"winnow/api"
)

// telling is what a site's goroutine tells: its verdict, and how many applications that has taken.
type telling struct {
	site         int
	verdict      api.Verdict
	applications int
}

// tellings are those of all sites by a first table, which fits, in the order in which their goroutines have told them. All of these have ended then: the channel has room for what they tell, so that none waits until it is received.
func tellings(p api.Prog, c api.Config, first api.Table) <-chan telling {
	told := make(chan telling, len(p.Sites))
	var working sync.WaitGroup
	for site := range p.Sites {
		working.Add(1)
		go func() {
			defer working.Done()
			verdict, _, applications, _ := Site(p, c, first, site)
			told <- telling{site, verdict, applications}
		}()
	}
	working.Wait()
	close(told)
	return told
}
