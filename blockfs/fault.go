package blockfs

import "majordomo/api"

// What is panicked with: impossible for a tree that can't be, failed for a disk, or a journal, that did not do what it was asked.
type (
	impossible struct{}
	failed     struct{ e api.Errno }
)

// caught is the error that a panic stands for.
func caught(x any) api.Errno {
	switch x := x.(type) {
	case failed:
		return x.e
	case impossible:
		return api.ErrCorrupt
	default: // a fault that nobody foresaw comes of a tree that nobody foresaw
		return api.ErrCorrupt
	}
}

// sure panics where the bytes of a tree are taken or laid, and can't be.
func sure(e api.Errno) {
	if e != api.OK {
		panic(impossible{})
	}
}
