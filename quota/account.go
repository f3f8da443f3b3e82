package quota

import (
	"maps"
	"slices"

	"croft/api"
)

// account is what one owner has, and may have.
type account struct {
	limit  uint64
	used   uint64            // the sizes of all blocks together: a heap may have too many to count them at each call
	blocks map[uint64]uint64 // for each block's address its size
}

// newAccount makes one without blocks.
func newAccount(limit uint64) *account {
	return &account{limit: limit, blocks: map[uint64]uint64{}}
}

// admits tells whether size bytes more are within the limit. No sum and no difference of these can wrap round, though what is used may be above the limit already.
func (o *account) admits(size uint64) bool {
	return size <= o.limit && o.used <= o.limit-size
}

// enter books a block that has come. (Who frees blocks past the bank may see one come twice: the sum is right then, too.)
func (o *account) enter(p, size uint64) {
	o.used += size - o.blocks[p]
	o.blocks[p] = size
}

// strike takes a block that has gone off the books.
func (o *account) strike(p uint64) {
	o.used -= o.blocks[p]
	delete(o.blocks, p)
}

// addresses tells where the blocks begin, rising.
func (o *account) addresses() []uint64 { return slices.Sorted(maps.Keys(o.blocks)) }

// covers tells whether p lies in one of the blocks. A block lies at a multiple of its size: so for each size there is one place alone where it can begin.
func (o *account) covers(p uint64) bool {
	for size := uint64(api.MinSize); size <= api.PageSize<<api.MaxOrder; size *= 2 {
		if o.blocks[p-p%size] == size {
			return true
		}
	}
	return false
}
