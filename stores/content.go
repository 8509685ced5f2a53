package stores

import (
	"veil/api"
	"veil/schemas"
	"veil/token"
	"veil/value"
)

// Content is what a cell tells: a value, and those within it if it is a list.
type Content struct {
	value.Value
	Items []Content
}

// readContent tells what a cell's text says, or false if it is wrongly written.
func readContent(text string) (Content, bool) {
	r := token.Read(text)
	c := takeContent(r, api.MaxDepth)
	return c, r.Done()
}

// takeContent takes a value in which so many lists may stand in one another.
func takeContent(r *token.Reader, depth int) Content {
	switch {
	case r.Take(token.Bang):
		return Content{Value: value.Value{Kind: value.Fault}}
	case r.Take(token.At):
		return Content{Value: value.Value{Kind: value.Reference, Text: r.Need(token.String).Text}}
	case r.Take(token.OpenList):
		return takeList(r, depth)
	}
	return Content{Value: value.Read(r)}
}

// takeList takes what stands behind the list's first sign.
func takeList(r *token.Reader, depth int) Content {
	if depth == 0 {
		r.Fail()
	}
	c := Content{Value: value.Value{Kind: value.List}}
	for !r.AtEnd() && !r.Sees(token.CloseList) {
		c.Items = append(c.Items, takeContent(r, depth-1))
	}
	r.Need(token.CloseList)
	return c
}

func (s *Store) fits(c Content, t *schemas.Type) bool {
	switch c.Kind {
	case value.Null, value.Fault:
		return true
	case value.List:
		return t.Kind == schemas.List && s.allFit(c.Items, t.Inner)
	case value.Reference:
		return s.mayRefer(c.Text, t.Name)
	}
	return c.IsOf(t.Name)
}

func (s *Store) allFit(items []Content, t *schemas.Type) bool {
	for _, c := range items {
		if !s.fits(c, t) {
			return false
		}
	}
	return true
}

// mayRefer tells whether a reference to this id may stand where the type of this name is asked for. A list's type has no name.
func (s *Store) mayRefer(id, name string) bool {
	switch s.Schema.Kind(name) {
	case schemas.Unknown, schemas.ScalarKind:
		return false
	}
	r := s.Row(id)
	return r == nil || r.Object.Name != schemas.Query && s.Schema.Of(r.Object, name)
}
