"""Letterrules: what a transport must put on letters so that a rule about their order is kept."""
