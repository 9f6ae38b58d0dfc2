// Package sqlproof: tables, statements, replies with proofs: see DOC.md.
package sqlproof

import (
	"sqlproof/api"
	"sqlproof/engine"
	"sqlproof/store"
)

// Server is a store.
type Server struct {
	base store.Store
}

// New makes a server whose digests have so many bytes (P3).
func New(wide int) (*Server, api.Errno) {
	if wide < 1 || wide > api.MaxWide {
		return nil, api.ErrWide
	}
	return &Server{}, api.OK
}

// Run carries a statement out (P3 to P8; its root P11; its proof P13).
func (s *Server) Run(sql string) api.Answer {
	if s == nil {
		return api.Answer{}
	}
	outcome := engine.Decide(&s.base, sql)
	engine.Apply(&s.base, outcome)
	return api.Answer{Reply: outcome.Reply}
}

// Peek answers as Run would, and turns nothing (P3).
func (s *Server) Peek(sql string) api.Answer {
	if s == nil {
		return api.Answer{}
	}
	outcome := engine.Decide(&s.base, sql)
	return api.Answer{Reply: outcome.Reply}
}

// Root tells the root's digest (P11).
func (s *Server) Root() string { return "" }

// Clash compares the tree with a proof (P16).
func (s *Server) Clash(proof string) (string, string, bool) { return "", "", false }

// Check is what a client does (P15).
func Check(wide int, root string, sql string, reply string, proof string) (string, bool) {
	return "", false
}
