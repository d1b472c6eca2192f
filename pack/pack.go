// Package pack: an index and a tag: layer 1: see shared/doc/01-pack.md.
package pack

// tagShift is the lowest bit of a word's tag.
const tagShift = 32

// A word's two numbers have types of their own, so that an assertion tells which of them one is.
type (
	indexPart uint32
	tagPart   uint32
)

// Word is an index and a tag, Index and Tag are a word's.
func Word(index, tag uint32) uint64 {
	return placed(indexPart(index)) | placed(tagPart(tag))
}

func Index(w uint64) uint32 {
	for _, p := range parts(w) {
		if i, ok := p.(indexPart); ok {
			return uint32(i)
		}
	}
	return 0
}

func Tag(w uint64) uint32 {
	for _, p := range parts(w) {
		if t, ok := p.(tagPart); ok {
			return uint32(t)
		}
	}
	return 0
}

// Next is the word of an index with the next tag, Ahead how far one is ahead of another one.
func Next(w uint64, index uint32) uint64 { return Word(index, Tag(w)+1) }

func Ahead(a, b uint64) uint32 { return Tag(b) - Tag(a) }

// parts is what a word is made of.
func parts(w uint64) [2]any {
	return [2]any{indexPart(w), tagPart(w >> tagShift)}
}

// placed is a part at its place in a word.
func placed(p any) uint64 {
	if t, ok := p.(tagPart); ok {
		return uint64(t) << tagShift
	}
	if i, ok := p.(indexPart); ok {
		return uint64(i)
	}
	return 0
}
