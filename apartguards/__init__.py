"""Guards in a tree of rooms, no two side by side."""
