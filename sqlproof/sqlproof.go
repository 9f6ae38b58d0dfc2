// Package sqlproof: tables, statements, replies with proofs: see DOC.md.
package sqlproof

import (
	"sqlproof/api"
	"sqlproof/digest"
	"sqlproof/engine"
	"sqlproof/proofs"
	"sqlproof/tree"
)

// Server is the tree of all rows, and the width of its digests.
type Server struct {
	wide int
	root tree.Node
}

// New makes a server whose digests have so many bytes (P3).
func New(wide int) (*Server, api.Errno) {
	if !digest.IsWidth(wide) {
		return nil, api.ErrWide
	}
	return &Server{wide: wide}, api.OK
}

// Run carries a statement out (P3 to P8; its root P11; its proof P13).
func (s *Server) Run(sql string) api.Answer {
	if s == nil {
		return api.Answer{}
	}
	answer, next := answered(s.wide, s.root, sql)
	s.root = next
	return answer
}

// Peek answers as Run would, and turns nothing (P3).
func (s *Server) Peek(sql string) api.Answer {
	if s == nil {
		return api.Answer{}
	}
	answer, _ := answered(s.wide, s.root, sql)
	return answer
}

// answered is the answer to a statement, and the tree as it leaves it.
func answered(wide int, root tree.Node, sql string) (api.Answer, tree.Node) {
	old := root.Numbered()
	var trail tree.Trail
	reply, next := engine.Run(old, sql, &trail)
	proof := proofs.Write(old, &trail, wide)
	return api.Answer{Reply: reply, Proof: proof, Root: next.Digest(wide)}, next
}

// Root tells the root's digest (P11).
func (s *Server) Root() string {
	if s == nil {
		return ""
	}
	return s.root.Digest(s.wide)
}

// Clash compares the tree with a proof (P16).
func (s *Server) Clash(proof string) (string, string, bool) {
	if s == nil {
		return "", "", false
	}
	told, ok := proofs.Read(proof, s.wide)
	root := s.Root()
	if !ok || told.Digest(s.wide) != root {
		return "", "", false
	}
	return proofs.Clash(s.root, told, s.wide)
}

// Check is what a client does (P15).
func Check(wide int, root string, sql string, reply string, proof string) (string, bool) {
	told, ok := proofs.Read(proof, wide)
	if !ok || told.Digest(wide) != root {
		return "", false
	}
	var trail tree.Trail
	answer, next := engine.Run(told, sql, &trail)
	if trail.Lost || answer != reply {
		return "", false
	}
	return next.Digest(wide), true
}
