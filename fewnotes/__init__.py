"""Fewnotes: hands over shared cells, recorded by the fewest notes."""
