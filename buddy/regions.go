package buddy

import (
	"slices"

	"croft/api"
)

// Feed takes in the region that was added last.
func (b *Buddy) Feed() api.Errno {
	page, there := b.top()
	if !there || b.Give(b.address(page), b.greatest()) != api.OK { // what is not live, Give refuses
		return api.ESTATE
	}
	return api.OK
}

// Pull lets go of the top region, if it is wholly free.
func (b *Buddy) Pull() api.Errno {
	page, there := b.top()
	if !there || !b.free(page, b.greatest()) {
		return api.ESTATE
	}
	if b.lists[b.greatest()].Remove(b.address(page)) != api.OK {
		return api.ESTATE
	}
	b.pages.Run(page, b.greatest(), api.PageBig)
	return api.OK
}

// top tells the first page of the topmost region, if there is one and the map has just the regions that the space has.
func (b *Buddy) top() (int, bool) {
	regions := b.space.Regions()
	if regions == 0 || b.pages.Pages() != regions<<b.greatest() {
		return 0, false
	}
	return (regions - 1) << b.greatest(), true
}

// free says whether a block is. That its page says so is not all: it may have stood on another buddy's list.
func (b *Buddy) free(page, order int) bool {
	return b.is(api.PageFree, page, order) && slices.Contains(b.Free(order), b.address(page))
}
