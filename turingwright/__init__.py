"""Turingwright: small machines, what they do, and papers that they end or never do."""
