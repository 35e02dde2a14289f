"""Things on a shelf given new names all at once."""
