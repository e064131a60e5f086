package vault

import (
	"slices"
	"strconv"
	"strings"

	"leat/api"
	"leat/codec"
	"leat/disk"
)

// What names of the vault's files begin with: chunks of parts, a manifest that is found, and one that isn't yet.
const (
	partHead  = "part."
	wholeHead = "whole."
	freshHead = "new."
)

// digits is the base of numbers in names: in decimal digits the longest name of a chunk would be longer than MaxName.
const digits = 36

// maxChunk is how many bytes a chunk has at most: its file has the 8 bytes of a seal beside them.
const maxChunk = api.MaxFile - 8

// snapshot: what the vault holds of one: its parts lie as sealed bytes, one behind the other, in chunks; parts has the names of the chunks.
type snapshot struct {
	n, epoch uint64
	parts    []string
	chunks   [][]byte
}

// manifest tells what is written into the snapshot's manifest.
func (s snapshot) manifest() ([]byte, api.Errno) {
	return codec.Manifest(api.Manifest{N: s.n, Epoch: s.epoch, Files: s.parts})
}

// files tells the names of all files, the manifest's first: they are deleted in this order, and without a manifest the rest is no snapshot.
func (s snapshot) files() []string {
	return append([]string{wholeName(s.n)}, s.parts...)
}

// pack tells the parts as chunks. One chunk takes as many parts as a file can hold, so that the number of parts isn't bounded by that of a manifest's files.
func pack(snaps []api.Snap) ([][]byte, api.Errno) {
	var chunks [][]byte
	var chunk []byte
	for _, s := range snaps {
		b, e := codec.Snap(s)
		if e != api.OK {
			return nil, e
		}
		sealed := codec.Seal(b)
		if len(chunk)+len(sealed) > maxChunk {
			chunks = append(chunks, chunk)
			chunk = nil
		}
		chunk = append(chunk, sealed...)
	}
	if len(chunk) > 0 {
		chunks = append(chunks, chunk)
	}
	return chunks, api.OK
}

// unpack tells the parts that a chunk has, if it is one: none is without parts.
func unpack(chunk []byte) ([]api.Snap, bool) {
	var snaps []api.Snap
	for len(chunk) > 0 {
		b, size, e := codec.Open(chunk)
		if e != api.OK {
			return nil, false
		}
		s, e := codec.OpenSnap(b)
		if e != api.OK {
			return nil, false
		}
		snaps = append(snaps, s)
		chunk = chunk[size:]
	}
	return snaps, len(snaps) > 0
}

// find tells the snapshot whose manifest has that name, if it is whole.
func find(d *disk.Disk, name string) (snapshot, bool) {
	m, ok := readManifest(d, name)
	if !ok {
		return snapshot{}, false
	}
	s := snapshot{n: m.N, epoch: m.Epoch, parts: m.Files}
	for i, file := range m.Files {
		chunk, ok := readFile(d, file)
		// A chunk of another snapshot, or from another place of this one, may be as whole as the right one: its name tells.
		if !ok || file != partName(m.N, i, chunk) {
			return snapshot{}, false
		}
		if _, ok := unpack(chunk); !ok {
			return snapshot{}, false
		}
		s.chunks = append(s.chunks, chunk)
	}
	return s, true
}

// readManifest tells the manifest that lies under the name, if it is one, and the name is its own.
func readManifest(d *disk.Disk, name string) (api.Manifest, bool) {
	if !strings.HasPrefix(name, wholeHead) {
		return api.Manifest{}, false
	}
	b, ok := readFile(d, name)
	if !ok {
		return api.Manifest{}, false
	}
	m, e := codec.OpenManifest(b)
	if e != api.OK || m.N == 0 || name != wholeName(m.N) {
		return api.Manifest{}, false
	}
	return m, true
}

// readFile tells what a file was written with, if it is whole. Each file is one seal: its length tells a torn one also where what is left of it has the same sum as all of it.
func readFile(d *disk.Disk, name string) ([]byte, bool) {
	file, e := d.Read(name)
	if e != api.OK {
		return nil, false
	}
	b, size, e := codec.Open(file)
	if e != api.OK || size != len(file) {
		return nil, false
	}
	return b, true
}

// wasted tells those of the names that a vault gave, and that none of the snapshots has.
func wasted(names []string, there []snapshot) []string {
	held := map[string]struct{}{}
	for _, s := range there {
		for _, name := range s.files() {
			held[name] = struct{}{}
		}
	}
	return slices.DeleteFunc(names, func(name string) bool {
		_, ok := held[name]
		return ok || !own(name)
	})
}

// own tells whether the vault gives such names; others are never deleted.
func own(name string) bool {
	return strings.HasPrefix(name, partHead) || strings.HasPrefix(name, wholeHead) || strings.HasPrefix(name, freshHead)
}

func partNames(n uint64, chunks [][]byte) []string {
	var names []string
	for i, chunk := range chunks {
		names = append(names, partName(n, i, chunk))
	}
	return names
}

// partName tells what a chunk is called: by its snapshot, its place and its sum, so that nothing else passes for it.
func partName(n uint64, place int, chunk []byte) string {
	return partHead + number(n) + "." + number(uint64(place)) + "." + number(uint64(codec.Sum(chunk)))
}

func wholeName(n uint64) string { return wholeHead + number(n) }

func freshName(n uint64) string { return freshHead + number(n) }

func number(n uint64) string { return strconv.FormatUint(n, digits) }
