package cache

// block is one that is kept, within a ring in the order of the uses. The ring is closed by what is no block: next older to it is the one used last, next newer the one used longest ago.
type block struct {
	key          Key
	data         string
	pins         int
	older, newer *block
}

// link: a block comes into the ring of which end is the end, as the one used last.
func (b *block) link(end *block) {
	b.older, b.newer = end.older, end
	b.older.newer, b.newer.older = b, b
}

// unlink: a block leaves its ring.
func (b *block) unlink() {
	b.older.newer, b.newer.older = b.newer, b.older
}
