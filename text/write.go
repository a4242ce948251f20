package text

import (
	"strconv"

	"sprigs/tree"
)

// Write gives the text of a stamp; it is plain, as the trees are.
func Write(stamp tree.Stamp) string {
	return writeID(stamp.ID) + ";" + writeEV(stamp.EV, 0)
}

func writeID(id *tree.ID) string {
	switch {
	case !id.IsLeaf():
		return "(" + writeID(id.Left) + "," + writeID(id.Right) + ")"
	case id.Value:
		return "1"
	}
	return "0"
}

// writeEV writes by how much the numbers of an EV are above base, which the
// NUMs in front of it tell already.
func writeEV(ev *tree.EV, base int64) string {
	lowest := tree.Lowest(ev)
	num := strconv.FormatInt(lowest-base, 10)
	if ev.IsLeaf() {
		return num
	}
	return "(" + num + "," + writeEV(ev.Left, lowest) + "," + writeEV(ev.Right, lowest) + ")"
}
