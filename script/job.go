package script

import (
	"croft/api"
	"croft/malloc"
)

// job is a call on a heap, with the address that it tells.
type job struct {
	heap *malloc.Heap
	call api.Call
	at   uint64
}

// method tells the one that does the call.
func (j job) method() func() api.Answer {
	switch j.call.Op {
	case api.OpMalloc:
		return j.malloc
	case api.OpCalloc:
		return j.calloc
	case api.OpAligned:
		return j.aligned
	case api.OpRealloc:
		return j.realloc
	case api.OpFree:
		return j.free
	case api.OpUsable:
		return j.usable
	case api.OpLoad:
		return j.load
	case api.OpStore:
		return j.store
	case api.OpLoadWord:
		return j.loadWord
	case api.OpStoreWord:
		return j.storeWord
	case api.OpRead:
		return j.read
	case api.OpWrite:
		return j.write
	case api.OpTrim:
		return j.trim
	case api.OpStats:
		return j.stats
	}
	return j.none
}

// value is the answer of a call that tells a number.
func value(v uint64, e api.Errno) api.Answer { return api.Answer{E: e, V: v} }

func (j job) malloc() api.Answer { return value(j.heap.Malloc(j.call.A, j.call.Deny)) }

func (j job) calloc() api.Answer { return value(j.heap.Calloc(j.call.A, j.call.B, j.call.Deny)) }

func (j job) aligned() api.Answer {
	return value(j.heap.AlignedAlloc(j.call.A, j.call.B, j.call.Deny))
}

func (j job) realloc() api.Answer { return value(j.heap.Realloc(j.at, j.call.A, j.call.Deny)) }

func (j job) free() api.Answer { return api.Answer{E: j.heap.Free(j.at)} }

func (j job) usable() api.Answer { return value(j.heap.UsableSize(j.at)) }

func (j job) load() api.Answer {
	v, e := j.heap.Load(j.at)
	return value(uint64(v), e)
}

func (j job) store() api.Answer { return api.Answer{E: j.heap.Store(j.at, byte(j.call.A))} }

func (j job) loadWord() api.Answer { return value(j.heap.LoadWord(j.at)) }

func (j job) storeWord() api.Answer { return api.Answer{E: j.heap.StoreWord(j.at, j.call.A)} }

func (j job) read() api.Answer {
	if j.call.A > api.MaxData {
		return api.Answer{E: api.ELIMIT}
	}
	data, e := j.heap.Read(j.at, j.call.A)
	return api.Answer{E: e, Data: data}
}

func (j job) write() api.Answer {
	if len(j.call.Data) > api.MaxData {
		return api.Answer{E: api.ELIMIT}
	}
	return api.Answer{E: j.heap.Write(j.at, j.call.Data)}
}

func (j job) trim() api.Answer { return api.Answer{V: uint64(j.heap.Trim())} }

func (j job) stats() api.Answer { return api.Answer{Stats: j.heap.Stats()} }

// none is for an Op that is none.
func (j job) none() api.Answer { return api.Answer{E: api.EINVAL} }
