"""Lastheap: a language whose heap outlives power cuts."""
