package queries

// agreement goes through all pairs of parts whose fields stand together somewhere. Each pair is looked at once, however often it stands together: a query may lay its fragments open far more often than it has parts.
type agreement struct {
	open []pair    // to be looked at
	met  []bool    // for each two parts, whether they are, or were, among the open ones
	laid [][]*Part // for each part, what is laid open in it, once that is known
}

type pair struct {
	a, b *Part
}

// Agrees tells whether fields that stand under one key ask for the same, and so do those in them together. It is asked of queries that are linked and bound.
func (q *Query) Agrees() bool {
	size := len(q.Parts)
	g := &agreement{met: make([]bool, size*size), laid: make([][]*Part, size)}
	whole := q.Operations[0].Part
	g.join(whole, whole)
	for len(g.open) > 0 {
		last := len(g.open) - 1
		next := g.open[last]
		g.open = g.open[:last]
		if !g.look(next) {
			return false
		}
	}
	return true
}

// join opens all pairs of what is laid open in two parts that stand together.
func (g *agreement) join(a, b *Part) {
	for _, x := range g.laidOpen(a) {
		for _, y := range g.laidOpen(b) {
			g.meet(x, y)
		}
	}
}

func (g *agreement) meet(a, b *Part) {
	if a.Number > b.Number {
		a, b = b, a
	}
	if place := a.Number*len(g.laid) + b.Number; !g.met[place] {
		g.met[place] = true
		g.open = append(g.open, pair{a, b})
	}
}

// look tells whether the fields of two parts agree. What stands in those of one key must be looked at then: in one field alone too, since it is met with itself.
func (g *agreement) look(p pair) bool {
	for i := range p.a.Selections {
		for j := range p.b.Selections {
			s, t := &p.a.Selections[i], &p.b.Selections[j]
			if s.Kind != FieldKind || t.Kind != FieldKind || s.Key != t.Key {
				continue
			}
			if !s.asks(t) {
				return false
			}
			if s.Part != nil && t.Part != nil {
				g.join(s.Part, t.Part)
			}
		}
	}
	return true
}

// laidOpen tells a part and all that its spreads and inline parts lay open, each once.
func (g *agreement) laidOpen(p *Part) []*Part {
	if g.laid[p.Number] == nil {
		g.laid[p.Number] = p.layOpen(nil, make([]bool, len(g.laid)))
	}
	return g.laid[p.Number]
}

func (p *Part) layOpen(list []*Part, seen []bool) []*Part {
	if seen[p.Number] {
		return list
	}
	seen[p.Number] = true
	list = append(list, p)
	for _, s := range p.Selections {
		if s.Kind != FieldKind && s.Part != nil {
			list = s.Part.layOpen(list, seen)
		}
	}
	return list
}
