"""Numbers of a field, polys and tables of them."""
