"""The project's own tests: python3 -m unittest, from the top of the repository."""
