package sha2

// blocks hands over the bytes of all parts, and their ending, in blocks of so many bytes. A block holds only while it is looked at.
func blocks(size int, parts [][]byte, each func(block []byte)) {
	f := filling{block: make([]byte, size), each: each}
	long := 0
	for _, b := range parts {
		long += len(b)
		f.add(b)
	}
	f.add(ending(size, long))
}

// ending: what stands behind so many bytes, to fill blocks: the byte 80 (base sixteen), noughts, and in the last eighth of a block how many bits they are, the greatest byte first.
func ending(size, long int) []byte {
	room := size - long%size
	if room < 1+size/8 {
		room += size
	}
	b := make([]byte, room)
	b[0] = 0x80
	// No more bytes can be handed in than eight bytes tell the bits of: where the number has sixteen, the greater eight are 0.
	for i := range 8 {
		b[room-1-i] = byte(uint64(long) * 8 >> (i * 8))
	}
	return b
}

// filling is a block that bytes are put into, however many come at once: when it is full it is handed over, and filled anew.
type filling struct {
	block []byte
	held  int
	each  func(block []byte)
}

// add: bytes behind those that came.
func (f *filling) add(b []byte) {
	for len(b) > 0 {
		n := copy(f.block[f.held:], b)
		f.held += n
		b = b[n:]
		if f.held == len(f.block) {
			f.each(f.block)
			f.held = 0
		}
	}
}
