package disk

import "marlstone/api"

// Crash loses what is not synced, but its beginning (G3).
func (d *Disk) Crash(keep int) {
	if d.down {
		return
	}
	for _, p := range d.unsynced {
		kept := min(max(keep, 0), p.count)
		keep -= kept
		d.lose(p.file, p.count-kept)
	}
	d.unsynced = nil
	d.down = true
	d.left, d.keep = 0, 0
}

// lose cuts so many bytes off f's end. Piece by piece this comes out right, for behind the first that is lost all are.
func (d *Disk) lose(f *file, count int) {
	f.body = f.body[:len(f.body)-count]
	d.used -= count
}

// Start brings it up (G3).
func (d *Disk) Start() { d.down = false }

// Arm lets a call to come crash (G3).
func (d *Disk) Arm(n, keep int) { d.left, d.keep = n, keep }

// write begins each call that writes: with the crash, if it is the one that was armed; then what is wrong, as check tells it.
func (d *Disk) write(names ...string) api.Errno {
	if !d.down && d.left > 0 {
		d.left--
		if d.left == 0 {
			d.Crash(d.keep)
		}
	}
	return d.check(names...)
}
