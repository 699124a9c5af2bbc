"""Hermitcell: realms that keep their memory from their host."""
