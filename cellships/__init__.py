"""Worlds of square cells that live by counting their neighbours."""
