// Package sqlproof: tables, statements, replies with proofs: see DOC.md.
package sqlproof

import (
	"sqlproof/api"
	"sqlproof/engine"
	"sqlproof/store"
)

// Server is a store, and the width of its digests.
type Server struct {
	wide int
	base store.Store
}

// New makes a server whose digests have so many bytes (P3).
func New(wide int) (*Server, api.Errno) {
	if wide < 1 || wide > api.MaxWide {
		return nil, api.ErrWide
	}
	return &Server{wide: wide}, api.OK
}

// Run carries a statement out (P3 to P8; its root P11; its proof P13).
func (s *Server) Run(sql string) api.Answer {
	if s == nil {
		return api.Answer{}
	}
	answer, base := answered(s.wide, s.base, sql)
	s.base = base
	return answer
}

// Peek answers as Run would, and turns nothing (P3).
func (s *Server) Peek(sql string) api.Answer {
	if s == nil {
		return api.Answer{}
	}
	answer, _ := answered(s.wide, s.base, sql)
	return answer
}

// answered is the answer to a statement, and the store as it leaves it.
func answered(wide int, base store.Store, sql string) (api.Answer, store.Store) {
	outcome := engine.Decide(base, sql)
	next := engine.Apply(base, outcome)
	return api.Answer{Reply: outcome.Reply, Root: next.Root(wide)}, next
}

// Root tells the root's digest (P11).
func (s *Server) Root() string {
	if s == nil {
		return ""
	}
	return s.base.Root(s.wide)
}

// Clash compares the tree with a proof (P16).
func (s *Server) Clash(proof string) (string, string, bool) { return "", "", false }

// Check is what a client does (P15).
func Check(wide int, root string, sql string, reply string, proof string) (string, bool) {
	return "", false
}
