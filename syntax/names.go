package syntax

import (
	"slices"

	"rondo/data"
	"rondo/reader"
)

// spot is a name at a depth: the same name may stand at several depths.
type spot struct {
	deep int
	name data.Symbol
}

// scopes has the slots of all names that stand for something around the form
// that is being made.
type scopes struct {
	slots map[spot]int
	deep  int
}

func (s *scopes) enter(names []data.Symbol) {
	s.deep++
	for slot, name := range names {
		s.slots[spot{deep: s.deep, name: name}] = slot
	}
}

func (s *scopes) leave(names []data.Symbol) {
	for _, name := range names {
		delete(s.slots, spot{deep: s.deep, name: name})
	}
	s.deep--
}

// find looks from the innermost scope outwards.
func (s *scopes) find(name data.Symbol) Name {
	for deep := s.deep; deep > 0; deep-- {
		if slot, known := s.slots[spot{deep: deep, name: name}]; known {
			return Name{Symbol: name, Local: true, Up: s.deep - deep, Slot: slot}
		}
	}
	return Name{Symbol: name}
}

// nameOf answers the name that a datum is: a symbol that is no keyword.
func (p *parser) nameOf(d reader.Datum) (data.Symbol, bool) {
	symbol, ok := d.Symbol()
	return symbol, ok && p.rules[symbol] == nil
}

// namesOf answers the names that the data are, if all are names and different.
func (p *parser) namesOf(list []reader.Datum) ([]data.Symbol, bool) {
	var names []data.Symbol
	for _, d := range list {
		name, ok := p.nameOf(d)
		if !ok || slices.Contains(names, name) {
			return nil, false
		}
		names = append(names, name)
	}
	return names, true
}
