"""Mustmay: plans of halls whose doors must be, may be, or are shut."""
