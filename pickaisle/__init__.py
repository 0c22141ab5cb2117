"""Pickaisle finds least rounds through a warehouse of parallel aisles."""
