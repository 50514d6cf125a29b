package deque

// The tag makes a word T that has come back to an old place another one than
// the one that a thief has loaded.
const tagStep = 1 << 16

func place(t int64) int64 { return t & (tagStep - 1) }

// raised is T with the next tag, at another place.
func raised(t, to int64) int64 { return t - place(t) + tagStep + to }
