package journal

import "majordomo/api"

// head is what the first block of a journal says: how many groups were done, and whether one more, of size writes, is stored and owed.
type head struct {
	groups int
	owed   bool
	size   int
}

// magic begins a head. The journal's place follows it, so that a copy of a head elsewhere on the disk is none.
const magic = "majordomo journal"

// encode is an array so that it can be held against another.
func (h head) encode(at int) [api.BlockSize]byte {
	var b [api.BlockSize]byte
	rest := b[copy(b[:], magic):]
	putNumber(rest, 0, at)
	putNumber(rest, 1, h.size)
	if h.owed {
		putNumber(rest, 2, 1)
	}
	for i := range 4 {
		putNumber(rest, 3+i, h.groups>>(48-16*i))
	}
	return b
}

// decodeHead tells the head of a journal at that place, if b is one: just what encode tells of it.
func decodeHead(b []byte, at int) (head, bool) {
	if len(b) != api.BlockSize {
		return head{}, false
	}
	rest := b[len(magic):]
	h := head{size: takeNumber(rest, 1), owed: takeNumber(rest, 2) == 1}
	for i := range 4 {
		h.groups = h.groups<<16 | takeNumber(rest, 3+i)
	}
	if h.groups < 0 || h.size > api.MaxGroup || h.size > 0 && !h.owed {
		return head{}, false
	}
	if h.encode(at) != [api.BlockSize]byte(b) {
		return head{}, false
	}
	return h, true
}

// pack is a group as it lies in the journal behind the head.
func pack(l []api.Put) []byte {
	memory := make([]byte, span(len(l))*api.BlockSize)
	for i, p := range l {
		putNumber(memory, i, p.Block)
		copy(piece(memory, tables(len(l))+i), p.Bytes)
	}
	return memory
}

// unpack is the group of n writes that pack made memory of.
func unpack(memory []byte, n int) []api.Put {
	l := make([]api.Put, n)
	for i := range n {
		l[i] = api.Put{Block: takeNumber(memory, i), Bytes: piece(memory, tables(n)+i)}
	}
	return l
}

// span is how many blocks a group of n writes takes in the journal behind the head.
func span(n int) int { return tables(n) + n }

// tables is how many blocks the numbers of n blocks take.
func tables(n int) int { return (n + perTable - 1) / perTable }

// piece is the i-th block of memory. Its capacity ends where it ends, so that whoever holds it can't reach the next one.
func piece(memory []byte, i int) []byte {
	from, to := i*api.BlockSize, (i+1)*api.BlockSize
	return memory[from:to:to]
}

func putNumber(b []byte, i, n int) {
	b[numberSize*i], b[numberSize*i+1] = byte(n>>8), byte(n)
}

func takeNumber(b []byte, i int) int {
	return int(b[numberSize*i])<<8 | int(b[numberSize*i+1])
}
