package entry

import (
	"iter"
	"slices"

	"ravel/api"
)

// size is how many bytes an entry's text has, most the greatest number that one of them tells.
const (
	size = 3
	most = 255
)

func may(x api.Entry) bool {
	return within(x.Kind, api.StepS, api.DownS) && within(x.A, 0, most) && within(x.B, 0, most) &&
		(x.B == 0 || x.Kind == api.SpawnS || x.Kind == api.DrawS) && (x.A == 0 || x.Kind != api.DownS)
}

// entries goes through the entries of a text that has no part of one at its end.
func entries(b []byte) iter.Seq[api.Entry] {
	return func(yield func(api.Entry) bool) {
		for part := range slices.Chunk(b, size) {
			if !yield(api.Entry{Kind: int(part[0]), A: int(part[1]), B: int(part[2])}) {
				return
			}
		}
	}
}
