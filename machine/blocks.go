package machine

// block is what New makes.
type block struct {
	fields []value
	// In which count it was counted last.
	count int
}

func words(fields int) int { return fields + 1 }

// blocks is how many words there are, and how many are taken.
type blocks struct {
	heap int
	// All that was reached at the last count, and all that was made since: never fewer words than are reached now.
	taken int
	count int
}

// haveRoom tells whether a block of so many fields has room beside the blocks that the frames reach. They are counted only if it has none beside those that are taken, since a count goes through all of them.
func (b *blocks) haveRoom(fields int, frames []*frame) bool {
	if b.taken+words(fields) > b.heap {
		b.taken = b.reached(frames)
	}
	return b.taken+words(fields) <= b.heap
}

func (b *blocks) made(fields []value) *block {
	b.taken += words(len(fields))
	return &block{fields: fields}
}

// reached counts the words of the blocks that the frames reach, of each block once.
func (b *blocks) reached(frames []*frame) int {
	b.count++
	var waiting [][]value
	for _, f := range frames {
		waiting = append(waiting, f.slots, f.stack)
	}
	all := 0
	for len(waiting) > 0 {
		last := len(waiting) - 1
		places := waiting[last]
		waiting = waiting[:last]
		for _, v := range places {
			if v.block == nil || v.block.count == b.count {
				continue
			}
			v.block.count = b.count
			all += words(len(v.block.fields))
			waiting = append(waiting, v.block.fields)
		}
	}
	return all
}
