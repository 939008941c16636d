"""An index of stretches by key and time: stretchindex.index.answers is its one entrance."""
