"""Names, events, letters and orders."""
