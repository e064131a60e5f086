// Package codec: frames, control messages, parts of snapshots and manifests as bytes with a sum; all bytes can be read, or refused: see doc/01-codec.md.
package codec

import (
	"slices"

	"leat/api"
)

// maxShort is the greatest number that two bytes hold.
const maxShort = 1<<16 - 1

// Frame tells f as bytes: its kind, and the fields that the kind uses.
func Frame(f api.Frame) ([]byte, api.Errno) {
	if !frameFits(f) {
		return nil, api.ErrCodecForm
	}
	return writeFrame(nil, f), api.OK
}

// OpenFrame reads what Frame tells.
func OpenFrame(b []byte) (api.Frame, api.Errno) {
	return readAll(b, readFrame)
}

// Control tells c as bytes.
func Control(c api.Control) ([]byte, api.Errno) {
	if !controlKind(c.Kind) || !short(c.Task) {
		return nil, api.ErrCodecForm
	}
	return writeControl(nil, c), api.OK
}

// OpenControl reads what Control tells.
func OpenControl(b []byte) (api.Control, api.Errno) {
	return readAll(b, readControl)
}

// Snap tells a task's part of a checkpoint as bytes.
func Snap(s api.Snap) ([]byte, api.Errno) {
	if len(s.Panes) > api.MaxPieces || len(s.Captured) > api.MaxPieces || len(s.Marks) > maxShort {
		return nil, api.ErrCodecBig
	}
	if !short(s.Task) || !short(s.Offset) || slices.ContainsFunc(s.Captured, unfitOut) {
		return nil, api.ErrCodecForm
	}
	return writeSnap(nil, s), api.OK
}

// OpenSnap reads what Snap tells.
func OpenSnap(b []byte) (api.Snap, api.Errno) {
	return readAll(b, readSnap)
}

// Manifest tells m as bytes.
func Manifest(m api.Manifest) ([]byte, api.Errno) {
	if len(m.Files) > maxShort || slices.ContainsFunc(m.Files, longName) {
		return nil, api.ErrCodecBig
	}
	return writeManifest(nil, m), api.OK
}

// OpenManifest reads what Manifest tells.
func OpenManifest(b []byte) (api.Manifest, api.Errno) {
	return readAll(b, readManifest)
}

// frameFits: f has a kind, and nothing in the fields that its kind doesn't use, so that no field is lost among the bytes.
func frameFits(f api.Frame) bool {
	used := api.Frame{Kind: f.Kind}
	switch f.Kind {
	case api.FrameRecord:
		used.Rec = f.Rec
	case api.FrameMark:
		used.Mark = f.Mark
	case api.FrameBarrier:
		used.N, used.Over = f.N, f.Over
	default:
		return false
	}
	return f == used
}

func controlKind(kind int) bool {
	return api.CtlTrigger <= kind && kind <= api.CtlReady
}

func unfitOut(o api.Out) bool {
	return !short(o.Channel) || !frameFits(o.F)
}

func longName(name string) bool {
	return len(name) > api.MaxName
}

// short: n can be written as two bytes.
func short(n int) bool {
	return 0 <= n && n <= maxShort
}
