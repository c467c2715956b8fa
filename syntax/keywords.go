package syntax

import (
	"rondo/data"
	"rondo/reader"
)

func (p *parser) quote(d reader.Datum) Form {
	if len(d.Parts) != 2 {
		return p.refuse(d)
	}
	return Constant{Value: d.Parts[1].Value()}
}

func (p *parser) choice(d reader.Datum) Form {
	switch len(d.Parts) {
	case 3:
		parts := p.forms(d.Parts[1:])
		return If{Test: parts[0], Then: parts[1]}
	case 4:
		parts := p.forms(d.Parts[1:])
		return If{Test: parts[0], Then: parts[1], Else: parts[2]}
	}
	return p.refuse(d)
}

func (p *parser) lambda(d reader.Datum) Form {
	if len(d.Parts) < 3 || !d.Parts[1].IsList() {
		return p.refuse(d)
	}
	return p.procedure(d, d.Parts[1].Parts)
}

// procedure makes the lambda that a datum tells, whose body begins with its
// third part.
func (p *parser) procedure(d reader.Datum, parameters []reader.Datum) Form {
	names, ok := p.namesOf(parameters)
	if !ok {
		return p.refuse(d)
	}
	return Lambda{Parameters: len(names), Body: p.formsWithin(names, d.Parts[2:])}
}

func (p *parser) begin(d reader.Datum) Form {
	if len(d.Parts) < 2 {
		return p.refuse(d)
	}
	return Begin{Body: p.forms(d.Parts[1:])}
}

func (p *parser) let(d reader.Datum) Form {
	if len(d.Parts) < 3 || !d.Parts[1].IsList() {
		return p.refuse(d)
	}
	var bound, values []reader.Datum
	for _, binding := range d.Parts[1].Parts {
		if len(binding.Parts) != 2 || !binding.IsList() {
			return p.refuse(d)
		}
		bound = append(bound, binding.Parts[0])
		values = append(values, binding.Parts[1])
	}
	names, ok := p.namesOf(bound)
	if !ok {
		return p.refuse(d)
	}
	return Let{Values: p.forms(values), Body: p.formsWithin(names, d.Parts[2:])}
}

func (p *parser) set(d reader.Datum) Form {
	if len(d.Parts) != 3 {
		return p.refuse(d)
	}
	name, ok := p.nameOf(d.Parts[1])
	if !ok {
		return p.refuse(d)
	}
	return Set{Name: p.find(name), Value: p.form(d.Parts[2])}
}

func (p *parser) and(d reader.Datum) Form {
	return p.until(false, d)
}

func (p *parser) or(d reader.Datum) Form {
	return p.until(true, d)
}

func (p *parser) until(stop bool, d reader.Datum) Form {
	if len(d.Parts) == 1 {
		return Constant{Value: data.Truth(!stop)}
	}
	return Until{Stop: stop, Forms: p.forms(d.Parts[1:])}
}

func (p *parser) reset(d reader.Datum) Form {
	if len(d.Parts) < 2 {
		return p.refuse(d)
	}
	return Reset{Body: p.forms(d.Parts[1:])}
}

func (p *parser) shift(d reader.Datum) Form {
	if len(d.Parts) < 3 {
		return p.refuse(d)
	}
	name, ok := p.nameOf(d.Parts[1])
	if !ok {
		return p.refuse(d)
	}
	return Shift{Body: p.formsWithin([]data.Symbol{name}, d.Parts[2:])}
}

func (p *parser) define(d reader.Datum) Form {
	if len(d.Parts) < 3 {
		return p.refuse(d)
	}
	if len(d.Parts[1].Parts) > 0 {
		return p.defineProcedure(d)
	}
	name, ok := p.nameOf(d.Parts[1])
	if !ok || len(d.Parts) != 3 {
		return p.refuse(d)
	}
	return Define{Symbol: name, Value: p.form(d.Parts[2])}
}

func (p *parser) defineProcedure(d reader.Datum) Form {
	head := d.Parts[1]
	name, ok := p.nameOf(head.Parts[0])
	if !ok || !head.IsList() {
		return p.refuse(d)
	}
	return Define{Symbol: name, Value: p.procedure(d, head.Parts[1:])}
}
