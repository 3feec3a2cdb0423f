package log

import (
	"conciliator/api"
	"conciliator/code"
	"conciliator/disk"
	"conciliator/frame"
)

// none stands in the place of where a file is still to be cut, where nothing is to be cut off.
const none = -1

// written is a log's file, on the disk on which it is written.
type written struct {
	*disk.Disk
	name string
	owed int // where the file is still to be cut, since the disk did not do it, or none
}

// entries are those of the file, up to the first frame that holds none; what stands behind them is cut off.
func (w *written) entries() []api.Entry {
	var all []api.Entry
	end := 0
	// No error is told: what the disk does not cut off now is behind what the log has, and goes ahead of what comes next.
	defer func() { w.cut(end) }()
	has, _ := w.Read(w.name)
	held, _ := frame.Scan(has)
	empty, _ := frame.Wrap(nil)
	for _, b := range held {
		e, wrong := code.Decode(b)
		if wrong != api.OK {
			return all
		}
		all = append(all, e)
		end += len(empty) + len(b)
	}
	return all
}

// lay puts bytes at the file's end, so that they last; else the file is cut where it was.
func (w *written) lay(b []byte) (wrong api.Errno) {
	if wrong = w.settle(); wrong != api.OK {
		return wrong
	}
	if wrong = w.Append(w.name, b); wrong != api.OK {
		return wrong
	}
	defer func() {
		if wrong != api.OK {
			w.cut(w.long() - len(b))
		}
	}()
	return w.Sync(w.name)
}

// settle cuts off what is still to be cut off: no entry that was laid behind it would be found again.
func (w *written) settle() api.Errno {
	if w.owed == none {
		return api.OK
	}
	return w.cut(w.owed)
}

// cut leaves the file so many bytes, if it has more; if the disk doesn't do it, that is owed.
func (w *written) cut(n int) api.Errno {
	w.owed = n
	if w.long() > n {
		if wrong := w.Cut(w.name, n); wrong != api.OK {
			return wrong
		}
	}
	w.owed = none
	return api.OK
}

// long is how many bytes the file has; none, if there is no file.
func (w *written) long() int {
	has, _ := w.Read(w.name)
	return len(has)
}
