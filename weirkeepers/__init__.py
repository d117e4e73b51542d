"""Weirkeepers: rivers on which every weir ranks the rights in an order of its own."""
