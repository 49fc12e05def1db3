"""What is to be worked out: circuits, and programs that are made circuits."""
