"""An allocator in words of memory whose parts are code, judged for all sizes."""
