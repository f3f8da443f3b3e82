package buddy

import "croft/api"

// Take tells a block of an order that is live from now on.
func (b *Buddy) Take(order int) (uint64, api.Errno) {
	if !b.has(order) {
		return 0, api.EINVAL
	}
	from := b.least(order)
	if !b.has(from) {
		return 0, api.ENOMEM
	}
	p := b.lists[from].Head()
	page, there := b.page(p)
	if !there || page%(1<<from) != 0 {
		return 0, api.ESTATE // others have written over the list, and it leads astray
	}
	if _, e := b.lists[from].Pop(); e != api.OK {
		return 0, api.ESTATE
	}
	b.turn(page, from)
	if e := b.cut(page, from, order); e != api.OK {
		return 0, e
	}
	return p, api.OK
}

// least tells the least order, from that one on, of which there is a free block; one past the greatest, if there is none.
func (b *Buddy) least(order int) int {
	for b.has(order) && b.lists[order].Head() == 0 {
		order++
	}
	return order
}

// Give gives one back.
func (b *Buddy) Give(p uint64, order int) api.Errno {
	page, live := b.live(p, order)
	if !live {
		return api.EINVAL
	}
	return b.join(page, order)
}

// Shrink gives back the upper part of one.
func (b *Buddy) Shrink(p uint64, from, to int) api.Errno {
	page, live := b.live(p, from)
	if !live || to < 0 || to > from {
		return api.EINVAL
	}
	return b.cut(page, from, to)
}

// live tells the first page of the live block of an order at p, if there is one.
func (b *Buddy) live(p uint64, order int) (int, bool) {
	page, there := b.page(p)
	return page, there && b.has(order) && b.is(api.PageBig, page, order)
}

// cut takes one upper half after the other from a block that is on no list, and makes what is left live. Where an upper half can't be entered, it stays with the block.
func (b *Buddy) cut(page, from, to int) api.Errno {
	e := api.OK
	for from > to && e == api.OK {
		if e = b.enter(page+1<<(from-1), from-1); e == api.OK {
			from--
		}
	}
	b.pages.Run(page, from, api.PageBig)
	return e
}

// join enters a block that was live, made one with its other half as long as that is free. The pair's bit tells it: just one of the two is free, and it is not this one. An other half whose links others have written over can't be taken off its list: it is left where it is.
func (b *Buddy) join(page, order int) api.Errno {
up:
	if b.alone(page, order) && b.lists[order].Remove(b.address(page^1<<order)) == api.OK {
		b.turn(page, order)
		page &^= 1 << order
		order++
		goto up
	}
	return b.enter(page, order)
}

// alone says whether just one half of the pair of a block is free.
func (b *Buddy) alone(page, order int) bool {
	return order < b.greatest() && b.pages.Pair(order, page)
}

// enter makes a block free that is on no list. The list may refuse it where others have written over it: so it is asked first.
func (b *Buddy) enter(page, order int) api.Errno {
	if b.lists[order].Push(b.address(page)) != api.OK {
		return api.ESTATE
	}
	b.pages.Run(page, order, api.PageFree)
	b.turn(page, order)
	return api.OK
}

// turn turns the bit of a block's pair, as the block comes on its list or goes off it. A whole region has no pair: of it the map refuses to turn one.
func (b *Buddy) turn(page, order int) { b.pages.Flip(order, page) }
