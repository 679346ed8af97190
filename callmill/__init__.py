"""Callmill: scripts of talk, milled to tables, with papers that show nothing changed."""
