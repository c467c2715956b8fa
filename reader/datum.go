package reader

import "rondo/data"

// Datum is what was read, with the place of its first byte. It is a list of
// its parts with End behind them; all but pairs have no parts and are their
// own end. So it makes no difference whether a part stood behind a dot.
type Datum struct {
	Place int
	Parts []Datum
	End   data.Value
}

// Value answers the datum without its places.
func (d Datum) Value() data.Value {
	values := make([]data.Value, len(d.Parts))
	for i, part := range d.Parts {
		values[i] = part.Value()
	}
	return data.List(values, d.End)
}

// IsList says whether it ends in the empty list.
func (d Datum) IsList() bool {
	_, empty := d.End.(data.Empty)
	return empty
}

// Symbol answers the symbol that the datum is, if it is one.
func (d Datum) Symbol() (data.Symbol, bool) {
	if len(d.Parts) > 0 {
		return "", false
	}
	symbol, ok := d.End.(data.Symbol)
	return symbol, ok
}
