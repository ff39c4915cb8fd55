"""Namelines: houses that learn where names lie."""
