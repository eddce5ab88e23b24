"""Redo: things made from things, and papers that show them."""
