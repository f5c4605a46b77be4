"""A sheet of shapes: plane geometry in whole numbers."""
