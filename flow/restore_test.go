package flow

import (
	"math"
	"reflect"
	"slices"
	"testing"

	"culvert/api"
)

// stood is a state that can be, and records that wait in it.
func stood() (api.State, []api.Record) {
	state := api.State{
		Sessions: []api.Session{{Epoch: 2, Base: 3}, {}, {Epoch: math.MaxInt}, {Base: 1}},
		Keys:     []api.Key{{Name: "c", Count: 4, Fold: 4, Held: 4}, {Name: "s", Count: 1, Fold: math.MaxUint32}},
	}
	waiting := []api.Record{
		{Session: 0, Epoch: 2, Number: 4, Key: "m", Value: 1},
		{Session: 0, Epoch: 2, Number: 6, Key: "s", Value: 0},
		{Session: 2, Epoch: math.MaxInt, Number: 3, Key: "l\xff", Value: math.MaxUint32},
	}
	return state, waiting
}

func TestRestoreIsWhatWasTold(t *testing.T) {
	state, waiting := stood()
	turned := slices.Clone(waiting)
	slices.Reverse(turned)
	for _, order := range [][]api.Record{waiting, turned} {
		f, ok := Restore(state, order)
		if !ok {
			t.Fatal("it is no flow")
		}
		if got := f.Waiting(); !slices.Equal(got, waiting) {
			t.Errorf("Waiting() = %v, want %v", got, waiting)
		}
		got := f.State()
		if !slices.Equal(got.Keys, state.Keys) || !reflect.DeepEqual(got.Sessions[0], api.Session{Epoch: 2, Base: 3, Waiting: []int{4, 6}}) {
			t.Errorf("State() = %v", got)
		}
	}
}

func TestRestoreAtTheLimits(t *testing.T) {
	none := make([]api.Session, api.MaxSessions)
	for _, state := range []api.State{
		{Sessions: none},
		{Sessions: none, Keys: []api.Key{{Name: "m", Count: 1000, Held: 1000}}},
		{Sessions: none, Keys: []api.Key{{Name: "c", Count: 1}, {Name: "l", Count: 1}, {Name: "m", Count: 1}, {Name: "s", Count: 997}}},
		{Sessions: []api.Session{{Base: 250}, {Base: 250}, {Base: 250}, {Base: 250}}, Keys: []api.Key{{Name: "sssss\xff", Count: 1000}}},
	} {
		if _, ok := Restore(state, nil); !ok {
			t.Errorf("%v is no flow", state)
		}
	}
}

// What no flow can come to is refused, so that no call on a flow meets it.
func TestRestoreRefusesWhatCannotBe(t *testing.T) {
	for name, spoil := range map[string]func(s *api.State){
		"a session less":       func(s *api.State) { s.Sessions = s.Sessions[:3] },
		"a session more":       func(s *api.State) { s.Sessions = append(s.Sessions, api.Session{}) },
		"an epoch below 0":     func(s *api.State) { s.Sessions[1].Epoch = -1 },
		"a base below 0":       func(s *api.State) { s.Sessions[1].Base = -1 },
		"more than was taken":  func(s *api.State) { s.Sessions[1].Base = 2 },
		"a very great base":    func(s *api.State) { s.Sessions[1].Base = math.MaxInt },
		"two very great bases": func(s *api.State) { s.Sessions[1].Base, s.Sessions[2].Base = math.MaxInt, math.MaxInt },
		"no name":              func(s *api.State) { s.Keys[0].Name = "" },
		"another name":         func(s *api.State) { s.Keys[0].Name = "a" },
		"a long name":          func(s *api.State) { s.Keys[0].Name = "ccccccc" },
		"a name twice":         func(s *api.State) { s.Keys[1].Name = "c" },
		"names that fall":      func(s *api.State) { s.Keys[0].Name = "s1" },
		"a count of 0":         func(s *api.State) { s.Keys[1].Count = 0 },
		"a great count":        func(s *api.State) { s.Keys[0].Count = 1000 },
		"a very great count":   func(s *api.State) { s.Keys[0].Count = math.MaxInt },
		"a fold below 0":       func(s *api.State) { s.Keys[1].Fold = -1 },
		"a great fold":         func(s *api.State) { s.Keys[1].Fold++ },
		"a Held below 0":       func(s *api.State) { s.Keys[1].Held = -1 },
		"a great Held":         func(s *api.State) { s.Keys[1].Held = 2 },
		"counts that go round": func(s *api.State) {
			s.Keys[0].Count, s.Keys[1].Count = math.MaxInt, math.MaxInt
			s.Keys = append(s.Keys, api.Key{Name: "s1", Count: 10})
		},
		"too many keys": func(s *api.State) {
			s.Keys = append(s.Keys, api.Key{Name: "s1", Count: 1}, api.Key{Name: "s2", Count: 1}, api.Key{Name: "s3", Count: 1})
		},
	} {
		state, _ := stood()
		spoil(&state)
		if _, ok := Restore(state, nil); ok {
			t.Errorf("%s: it is taken for a flow", name)
		}
	}
}

func TestRestoreRefusesWhatCannotWait(t *testing.T) {
	for name, spoil := range map[string]func(s *api.State, x *api.Record){
		"a key too many":    func(_ *api.State, x *api.Record) { x.Key = "l" },
		"a record too many": func(s *api.State, _ *api.Record) { s.Keys[0].Count = 997 },
		"too far ahead":     func(_ *api.State, x *api.Record) { x.Number = 7 },
		"no session":        func(_ *api.State, x *api.Record) { x.Session = 4 },
		"no key":            func(_ *api.State, x *api.Record) { x.Key = "" },
		"no value":          func(_ *api.State, x *api.Record) { x.Value = -1 },
		"its epoch is over": func(_ *api.State, x *api.Record) { x.Epoch = 1 },
	} {
		state, waiting := stood()
		spoil(&state, &waiting[1])
		if _, ok := Restore(state, waiting); ok {
			t.Errorf("%s: it is taken for a flow", name)
		}
	}
}
