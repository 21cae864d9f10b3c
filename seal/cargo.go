package seal

import (
	"carpetbag/api"
	"carpetbag/chunk"
)

// cargo is what was loaded of an order so far.
type cargo struct {
	box   *Box
	order api.Order
	drawn int
	puts  []api.Put
}

// loadAll loads each entry of an archive, in order, and tells the pieces of a manifest that they are.
func (c *cargo) loadAll(archive []api.Entry) ([]api.Piece, api.Errno) {
	var pieces []api.Piece
	for _, e := range archive {
		p, err := c.load(e)
		if err != api.OK {
			return nil, err
		}
		pieces = append(pieces, p)
	}
	return pieces, api.OK
}

// load puts the chunks of one entry.
func (c *cargo) load(e api.Entry) (api.Piece, api.Errno) {
	p := api.Piece{Path: e.Path, Has: e.Has, Clock: e.Clock}
	// A path without a file has no data: that is not asked for as the empty string.
	if !e.Has {
		return p, api.OK
	}
	var err api.Errno
	if p.Digest, err = c.box.digests.Of(e.Data); err != api.OK {
		return api.Piece{}, err
	}
	p.Size = len(e.Data)
	for _, text := range chunk.Cut(e.Data) {
		// Nothing but chunks was put so far, so the next one's place is how many there are.
		name, err := c.put(len(c.puts), text)
		if err != api.OK {
			return api.Piece{}, err
		}
		p.Chunks = append(p.Chunks, name)
	}
	return p, api.OK
}

// put seals a text for its place, to be put under the name of that place, which it tells.
func (c *cargo) put(at int, text string) (int, api.Errno) {
	author, epoch := c.order.Author, c.order.At.Epoch
	// Behind the greatest version the least one comes. That it may not be shipped is told by the chain, when it is asked.
	version := c.order.At.Version + 1
	name, err := c.box.Name(author, epoch, version, at, c.draw())
	if err != api.OK {
		return 0, err
	}
	handle, err := c.box.Seal(key(author, epoch), label(author, version, at), text, c.draw())
	if err != api.OK {
		return 0, err
	}
	c.puts = append(c.puts, api.Put{Name: name, Value: c.box.value(handle)})
	return name, api.OK
}

// draw is the next one of the nonces, which come again, when all were drawn.
func (c *cargo) draw() int {
	nonces := c.order.Nonces
	if len(nonces) == 0 {
		return 0
	}
	n := nonces[c.drawn%len(nonces)]
	c.drawn++
	return n
}
