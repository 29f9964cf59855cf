package shell

import "bellows/world"

// World is a shell's. No line writes a manifest's inner line, which begins with a blank, so tests write manifests with rules into the world itself.
func (s *Shell) World() *world.World { return s.world }

// Of is a shell of a world.
func Of(w *world.World) *Shell { return &Shell{w} }
