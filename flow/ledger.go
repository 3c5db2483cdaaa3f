package flow

import (
	"slices"
	"strings"

	"culvert/api"
)

// ledger has each key of which a record was taken, in order.
type ledger []api.Key

func (l *ledger) take(name string, value int) {
	at, found := l.find(name)
	if !found {
		*l = slices.Insert(*l, at, api.Key{Name: name})
	}
	key := &(*l)[at]
	key.Count++
	key.Fold = fold(*key, value)
}

// find tells where a key stands, or would stand, and whether it does.
func (l ledger) find(name string) (int, bool) {
	return slices.BinarySearchFunc(l, name, compareName)
}

func compareName(key api.Key, name string) int { return strings.Compare(key.Name, name) }

// fold is what a key's records come to with this value, which its count has in it already.
func fold(key api.Key, value int) int {
	switch key.Name[0] {
	case 'c':
		return key.Count
	case 's':
		return int(uint32(key.Fold + value)) // sums are modulo 4294967296
	case 'l':
		return value
	default:
		return max(key.Fold, value)
	}
}

func (l ledger) taken() int {
	sum := 0
	for _, key := range l {
		sum += key.Count
	}
	return sum
}
