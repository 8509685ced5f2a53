// Package veil: queries over rows, as far as the viewer may see: see DOC.md.
package veil

import (
	"veil/api"
	"veil/schemas"
	"veil/stores"
	"veil/views"
)

// Server answers asks.
type Server struct{}

// Check tells whether a schema is right (P3).
func Check(schema string) api.Errno {
	_, e := schemas.Read(schema)
	return e
}

// Sees tells what a viewer sees of a store (P4).
func Sees(schema string, rows []api.Row, v api.Viewer) ([]api.Row, api.Errno) {
	s, e := schemas.Read(schema)
	if e != api.OK {
		return nil, e
	}
	store, e := stores.Read(s, rows)
	if e != api.OK {
		return nil, e
	}
	view, e := views.Of(s, v)
	if e != api.OK {
		return nil, e
	}
	return view.Rows(store), api.OK
}

// New makes a server (P5).
func New(schema string, rows []api.Row) (*Server, api.Errno) { return nil, api.OK }

// Put brings a row into the store (P5).
func (s *Server) Put(row api.Row) api.Errno { return api.OK }

// Drop takes a row out of the store (P5).
func (s *Server) Drop(id string) api.Errno { return api.OK }

// Serve answers an ask (P6).
func (s *Server) Serve(a api.Ask) string { return "" }

// ServeAll answers some asks (P7).
func (s *Server) ServeAll(asks []api.Ask) ([]string, api.Errno) { return nil, api.OK }
