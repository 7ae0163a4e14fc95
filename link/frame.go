package link

import (
	"slices"

	"gemot/api"
	"gemot/list"
	"gemot/term"
)

func isProcess(p int) bool { return p >= 1 && p <= api.MaxProcs }

// frame is a message to the peer, signed.
func (e *End) frame(kind, number int, terms ...term.Term) (term.Term, api.Errno) {
	packed, wrong := list.Pack(list.Message{Kind: kind, Number: number, Members: []int{e.peer}, Terms: terms})
	if wrong != api.OK {
		return "", wrong
	}
	key, wrong := term.Private(e.me)
	if wrong != api.OK {
		return "", wrong
	}
	return term.Sign(key, packed)
}

// forMe tells whether a message is what a frame to this end may say.
func (e *End) forMe(m list.Message) bool {
	none := api.Id{}
	if !slices.Equal(m.Members, []int{e.me}) || m.Id != none || m.Old != none {
		return false
	}
	switch m.Kind {
	case DataKind:
		return len(m.Terms) == 1 && m.Number >= 1
	case AckKind:
		return len(m.Terms) == 0
	}
	return false
}
