package region

import (
	"croft/api"
	"croft/buddy"
	"croft/mem"
	"croft/pagemap"
)

// ground is what a pool stands on, all of one Config: it is embedded in the pool, and its calls are the pool's.
type ground struct {
	space *mem.Space
	pages *pagemap.Map
	buddy *buddy.Buddy
}

// Space tells the memory.
func (g *ground) Space() *mem.Space { return g.space }

// Map tells what each page is.
func (g *ground) Map() *pagemap.Map { return g.pages }

// Buddy tells who cuts and joins the blocks.
func (g *ground) Buddy() *buddy.Buddy { return g.buddy }

// grow brings a region more to all three. It asks the space first: that alone may refuse.
func (g *ground) grow(deny bool) api.Errno {
	if _, e := g.space.Commit(deny); e != api.OK {
		return e
	}
	g.pages.Grow()
	g.buddy.Feed()
	return api.OK
}

// shrink takes the topmost region from all three, and says whether it did: only a wholly free one goes.
func (g *ground) shrink() bool {
	if g.buddy.Pull() != api.OK {
		return false
	}
	g.pages.Shrink(1)
	g.space.Decommit(1)
	return true
}
