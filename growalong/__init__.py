"""Growalong: what machines with copies of one memory, on a web of wires, can show."""
