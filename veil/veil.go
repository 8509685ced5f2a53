// Package veil: queries over rows, as far as the viewer may see: see DOC.md.
package veil

import (
	"sync"

	"veil/answers"
	"veil/api"
	"veil/schemas"
	"veil/stores"
	"veil/views"
)

// Server answers asks, of many at once. A store is never changed: another one takes its place, so that an ask is answered of one store from its beginning to its end.
type Server struct {
	mutex sync.Mutex
	store *stores.Store
}

// Check tells whether a schema is right (P3).
func Check(schema string) api.Errno {
	_, e := schemas.Read(schema)
	return e
}

// read makes a store of a schema and rows.
func read(schema string, rows []api.Row) (*stores.Store, api.Errno) {
	s, e := schemas.Read(schema)
	if e != api.OK {
		return nil, e
	}
	return stores.Read(s, rows)
}

// Sees tells what a viewer sees of a store (P4).
func Sees(schema string, rows []api.Row, v api.Viewer) ([]api.Row, api.Errno) {
	store, e := read(schema, rows)
	if e != api.OK {
		return nil, e
	}
	view, e := views.Of(store.Schema, v)
	if e != api.OK {
		return nil, e
	}
	return view.Rows(store), api.OK
}

// New makes a server (P5).
func New(schema string, rows []api.Row) (*Server, api.Errno) {
	store, e := read(schema, rows)
	if e != api.OK {
		return nil, e
	}
	return &Server{store: store}, api.OK
}

// Put brings a row into the store (P5).
func (s *Server) Put(row api.Row) api.Errno {
	return s.change(func(old *stores.Store) (*stores.Store, api.Errno) { return old.Put(row) })
}

// Drop takes a row out of the store (P5).
func (s *Server) Drop(id string) api.Errno {
	return s.change(func(old *stores.Store) (*stores.Store, api.Errno) { return old.Drop(id) })
}

// change puts another store in the place of the one that is kept, unless there is an error.
func (s *Server) change(next func(*stores.Store) (*stores.Store, api.Errno)) api.Errno {
	s.mutex.Lock()
	defer s.mutex.Unlock()
	store, e := next(s.store)
	if e == api.OK {
		s.store = store
	}
	return e
}

// kept tells the store as it is now.
func (s *Server) kept() *stores.Store {
	s.mutex.Lock()
	defer s.mutex.Unlock()
	return s.store
}

// Serve answers an ask (P6).
func (s *Server) Serve(a api.Ask) string { return answers.Answer(s.kept(), a) }

// ServeAll answers some asks (P7). All of them are answered of the store as it is at the call, so that no change that comes meanwhile is seen by some and not by others.
func (s *Server) ServeAll(asks []api.Ask) ([]string, api.Errno) {
	if len(asks) > api.MaxAsks {
		return nil, api.ErrArg
	}
	store := s.kept()
	list := make([]string, len(asks))
	var all sync.WaitGroup
	for i, a := range asks {
		all.Go(func() { list[i] = answers.Answer(store, a) })
	}
	all.Wait()
	return list, api.OK
}
