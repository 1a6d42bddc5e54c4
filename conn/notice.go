package conn

// notice: something that the other side is to be told, again and again till it is known to have heard it.
type notice struct {
	due         bool
	told, heard int // how often it was told, and the latest of these times that has arrived
}

// tell: it is told now; what is to be done when that arrives, and when it is lost.
func (n *notice) tell() (arrived, lost func()) {
	n.due = false
	n.told++
	mine := n.told
	arrived = func() { n.heard = max(n.heard, mine) }
	// What was told later says at least as much: only the last time is worth telling again.
	lost = func() { n.due = n.due || mine == n.told && mine > n.heard }
	return arrived, lost
}

// open: whether the other side has yet to hear it.
func (n *notice) open() bool { return n.due || n.heard < n.told }

// allowance: how many streams of a kind the other side may have opened.
type allowance struct {
	notice
	limit int
}

// window: how far the other side may send.
type window struct {
	notice
	size  int // how far beyond what has been taken up
	limit int // what it was told last
}

// widens: whether the other side is to hear of a limit, where so much has been taken up and so much has come.
func (w *window) widens(taken, high int) bool {
	return w.due || taken+w.size > w.limit && 2*(w.limit-high) < w.size
}

// intake: what comes on all streams together.
type intake struct {
	window
	high  int // how much has come, gaps counted
	taken int // how much of it has been read, or will never be
}

// outlet: what goes on all streams together.
type outlet struct {
	limit, sent int
}
