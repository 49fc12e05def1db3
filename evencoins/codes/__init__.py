"""Words near polys, and sharings by one letter or two."""
