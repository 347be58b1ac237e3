"""Tentpairs: campers, whom they would share a tent with, and pairs that nobody would break."""
