/- calls and fields, once (tools/dedup.py) -/
import Derived.Test.YtpdjnefgkcmdnaaGreatDoorSxU
namespace Go.Proofs.YtpdjnefgkcmdnaaGreatDoor
open Go.RowKit
set_option linter.unusedSimpArgs false
set_option linter.unusedVariables false
set_option maxRecDepth 100000
theorem fz_api_Call_0 (g off:Nat) (w:World):(Instr.fieldAt 33 (.pointer (some ⟨g,off,none⟩)) 0).run Tryz.prog w=.ok (.pointer (some ⟨g,off+0,none⟩)) w:=rfl
theorem fz_api_Call_1 (g off:Nat) (w:World):(Instr.fieldAt 33 (.pointer (some ⟨g,off,none⟩)) 1).run Tryz.prog w=.ok (.pointer (some ⟨g,off+1,none⟩)) w:=rfl
theorem fz_api_Call_2 (g off:Nat) (w:World):(Instr.fieldAt 33 (.pointer (some ⟨g,off,none⟩)) 2).run Tryz.prog w=.ok (.pointer (some ⟨g,off+2,none⟩)) w:=rfl
theorem fz_api_Call_3 (g off:Nat) (w:World):(Instr.fieldAt 33 (.pointer (some ⟨g,off,none⟩)) 3).run Tryz.prog w=.ok (.pointer (some ⟨g,off+3,none⟩)) w:=rfl
theorem fz_api_Call_4 (g off:Nat) (w:World):(Instr.fieldAt 33 (.pointer (some ⟨g,off,none⟩)) 4).run Tryz.prog w=.ok (.pointer (some ⟨g,off+4,none⟩)) w:=rfl
theorem fz_api_Call_5 (g off:Nat) (w:World):(Instr.fieldAt 33 (.pointer (some ⟨g,off,none⟩)) 5).run Tryz.prog w=.ok (.pointer (some ⟨g,off+5,none⟩)) w:=rfl
theorem fz_api_Call_6 (g off:Nat) (w:World):(Instr.fieldAt 33 (.pointer (some ⟨g,off,none⟩)) 6).run Tryz.prog w=.ok (.pointer (some ⟨g,off+6,none⟩)) w:=rfl
theorem fz_api_Call_7 (g off:Nat) (w:World):(Instr.fieldAt 33 (.pointer (some ⟨g,off,none⟩)) 7).run Tryz.prog w=.ok (.pointer (some ⟨g,off+7,none⟩)) w:=rfl
theorem fz_api_Reply_0 (g off:Nat) (w:World):(Instr.fieldAt 28 (.pointer (some ⟨g,off,none⟩)) 0).run Tryz.prog w=.ok (.pointer (some ⟨g,off+0,none⟩)) w:=rfl
theorem fz_api_Reply_1 (g off:Nat) (w:World):(Instr.fieldAt 28 (.pointer (some ⟨g,off,none⟩)) 1).run Tryz.prog w=.ok (.pointer (some ⟨g,off+1,none⟩)) w:=rfl
theorem fz_api_Reply_2 (g off:Nat) (w:World):(Instr.fieldAt 28 (.pointer (some ⟨g,off,none⟩)) 2).run Tryz.prog w=.ok (.pointer (some ⟨g,off+2,none⟩)) w:=rfl
theorem fz_api_Reply_3 (g off:Nat) (w:World):(Instr.fieldAt 28 (.pointer (some ⟨g,off,none⟩)) 3).run Tryz.prog w=.ok (.pointer (some ⟨g,off+3,none⟩)) w:=rfl
theorem fz_api_Reply_4 (g off:Nat) (w:World):(Instr.fieldAt 28 (.pointer (some ⟨g,off,none⟩)) 4).run Tryz.prog w=.ok (.pointer (some ⟨g,off+4,none⟩)) w:=rfl
theorem fz_commonsref06_Entry_0 (g off:Nat) (w:World):(Instr.fieldAt 79 (.pointer (some ⟨g,off,none⟩)) 0).run Tryz.prog w=.ok (.pointer (some ⟨g,off+0,none⟩)) w:=rfl
theorem fz_commonsref06_Entry_1 (g off:Nat) (w:World):(Instr.fieldAt 79 (.pointer (some ⟨g,off,none⟩)) 1).run Tryz.prog w=.ok (.pointer (some ⟨g,off+1,none⟩)) w:=rfl
theorem fz_commonsref06_Entry_2 (g off:Nat) (w:World):(Instr.fieldAt 79 (.pointer (some ⟨g,off,none⟩)) 2).run Tryz.prog w=.ok (.pointer (some ⟨g,off+2,none⟩)) w:=rfl
theorem fz_commonsref06_Fs_0 (g off:Nat) (w:World):(Instr.fieldAt 48 (.pointer (some ⟨g,off,none⟩)) 0).run Tryz.prog w=.ok (.pointer (some ⟨g,off+0,none⟩)) w:=rfl
theorem fz_commonsref06_Fs_1 (g off:Nat) (w:World):(Instr.fieldAt 48 (.pointer (some ⟨g,off,none⟩)) 1).run Tryz.prog w=.ok (.pointer (some ⟨g,off+1,none⟩)) w:=rfl
theorem fz_commonsref06_Fs_2 (g off:Nat) (w:World):(Instr.fieldAt 48 (.pointer (some ⟨g,off,none⟩)) 2).run Tryz.prog w=.ok (.pointer (some ⟨g,off+2,none⟩)) w:=rfl
theorem fz_commonsref06_Node_0 (g off:Nat) (w:World):(Instr.fieldAt 50 (.pointer (some ⟨g,off,none⟩)) 0).run Tryz.prog w=.ok (.pointer (some ⟨g,off+0,none⟩)) w:=rfl
theorem fz_commonsref06_Node_1 (g off:Nat) (w:World):(Instr.fieldAt 50 (.pointer (some ⟨g,off,none⟩)) 1).run Tryz.prog w=.ok (.pointer (some ⟨g,off+1,none⟩)) w:=rfl
theorem fz_commonsref06_Node_2 (g off:Nat) (w:World):(Instr.fieldAt 50 (.pointer (some ⟨g,off,none⟩)) 2).run Tryz.prog w=.ok (.pointer (some ⟨g,off+2,none⟩)) w:=rfl
theorem fz_commonsref06_Open_0 (g off:Nat) (w:World):(Instr.fieldAt 73 (.pointer (some ⟨g,off,none⟩)) 0).run Tryz.prog w=.ok (.pointer (some ⟨g,off+0,none⟩)) w:=rfl
theorem fz_commonsref06_Open_1 (g off:Nat) (w:World):(Instr.fieldAt 73 (.pointer (some ⟨g,off,none⟩)) 1).run Tryz.prog w=.ok (.pointer (some ⟨g,off+1,none⟩)) w:=rfl
theorem fz_commonsref06_Open_2 (g off:Nat) (w:World):(Instr.fieldAt 73 (.pointer (some ⟨g,off,none⟩)) 2).run Tryz.prog w=.ok (.pointer (some ⟨g,off+2,none⟩)) w:=rfl
theorem fz_posix_Fs_0 (g off:Nat) (w:World):(Instr.fieldAt 89 (.pointer (some ⟨g,off,none⟩)) 0).run Tryz.prog w=.ok (.pointer (some ⟨g,off+0,none⟩)) w:=rfl
theorem fz_posix_Fs_1 (g off:Nat) (w:World):(Instr.fieldAt 89 (.pointer (some ⟨g,off,none⟩)) 1).run Tryz.prog w=.ok (.pointer (some ⟨g,off+1,none⟩)) w:=rfl
theorem fz_posix_node_0 (g off:Nat) (w:World):(Instr.fieldAt 101 (.pointer (some ⟨g,off,none⟩)) 0).run Tryz.prog w=.ok (.pointer (some ⟨g,off+0,none⟩)) w:=rfl
theorem fz_posix_node_1 (g off:Nat) (w:World):(Instr.fieldAt 101 (.pointer (some ⟨g,off,none⟩)) 1).run Tryz.prog w=.ok (.pointer (some ⟨g,off+1,none⟩)) w:=rfl
theorem fz_posix_node_2 (g off:Nat) (w:World):(Instr.fieldAt 101 (.pointer (some ⟨g,off,none⟩)) 2).run Tryz.prog w=.ok (.pointer (some ⟨g,off+2,none⟩)) w:=rfl
theorem fz_posix_node_3 (g off:Nat) (w:World):(Instr.fieldAt 101 (.pointer (some ⟨g,off,none⟩)) 3).run Tryz.prog w=.ok (.pointer (some ⟨g,off+3,none⟩)) w:=rfl
theorem cz_commonsref05_Inside (args:Array Value) (w:World):(callFunc 35 args).run Tryz.prog w=.ok (.enter 35 args) w:=by
 have h:=Tryz.func35
 go_simp
theorem cz_commonsref05_Path (args:Array Value) (w:World):(callFunc 30 args).run Tryz.prog w=.ok (.enter 30 args) w:=by
 have h:=Tryz.func30
 go_simp
theorem cz_commonsref05_Same (args:Array Value) (w:World):(callFunc 28 args).run Tryz.prog w=.ok (.enter 28 args) w:=by
 have h:=Tryz.func28
 go_simp
theorem cz_commonsref06_Fs_Do (args:Array Value) (w:World):(callFunc 7 args).run Tryz.prog w=.ok (.enter 7 args) w:=by
 have h:=Tryz.func7
 go_simp
theorem cz_commonsref06_Fs_Find (args:Array Value) (w:World):(callFunc 15 args).run Tryz.prog w=.ok (.enter 15 args) w:=by
 have h:=Tryz.func15
 go_simp
theorem cz_commonsref06_Fs_Lookup (args:Array Value) (w:World):(callFunc 34 args).run Tryz.prog w=.ok (.enter 34 args) w:=by
 have h:=Tryz.func34
 go_simp
theorem cz_commonsref06_Fs_Names (args:Array Value) (w:World):(callFunc 36 args).run Tryz.prog w=.ok (.enter 36 args) w:=by
 have h:=Tryz.func36
 go_simp
theorem cz_commonsref06_Fs_Of (args:Array Value) (w:World):(callFunc 13 args).run Tryz.prog w=.ok (.enter 13 args) w:=by
 have h:=Tryz.func13
 go_simp
theorem cz_commonsref06_Fs_Place (args:Array Value) (w:World):(callFunc 16 args).run Tryz.prog w=.ok (.enter 16 args) w:=by
 have h:=Tryz.func16
 go_simp
theorem cz_commonsref06_Fs_Walk (args:Array Value) (w:World):(callFunc 31 args).run Tryz.prog w=.ok (.enter 31 args) w:=by
 have h:=Tryz.func31
 go_simp
theorem cz_commonsref06_Fs_count (args:Array Value) (w:World):(callFunc 32 args).run Tryz.prog w=.ok (.enter 32 args) w:=by
 have h:=Tryz.func32
 go_simp
theorem cz_commonsref06_Fs_file (args:Array Value) (w:World):(callFunc 14 args).run Tryz.prog w=.ok (.enter 14 args) w:=by
 have h:=Tryz.func14
 go_simp
theorem cz_commonsref06_Fs_link (args:Array Value) (w:World):(callFunc 20 args).run Tryz.prog w=.ok (.enter 20 args) w:=by
 have h:=Tryz.func20
 go_simp
theorem cz_commonsref06_Fs_node (args:Array Value) (w:World):(callFunc 18 args).run Tryz.prog w=.ok (.enter 18 args) w:=by
 have h:=Tryz.func18
 go_simp
theorem cz_commonsref06_Fs_open (args:Array Value) (w:World):(callFunc 12 args).run Tryz.prog w=.ok (.enter 12 args) w:=by
 have h:=Tryz.func12
 go_simp
theorem cz_commonsref06_Fs_put (args:Array Value) (w:World):(callFunc 17 args).run Tryz.prog w=.ok (.enter 17 args) w:=by
 have h:=Tryz.func17
 go_simp
theorem cz_commonsref06_Fs_rename (args:Array Value) (w:World):(callFunc 22 args).run Tryz.prog w=.ok (.enter 22 args) w:=by
 have h:=Tryz.func22
 go_simp
theorem cz_commonsref06_Fs_rmdir (args:Array Value) (w:World):(callFunc 19 args).run Tryz.prog w=.ok (.enter 19 args) w:=by
 have h:=Tryz.func19
 go_simp
theorem cz_commonsref06_Fs_take (args:Array Value) (w:World):(callFunc 21 args).run Tryz.prog w=.ok (.enter 21 args) w:=by
 have h:=Tryz.func21
 go_simp
theorem cz_commonsref06_Fs_tells (args:Array Value) (w:World):(callFunc 23 args).run Tryz.prog w=.ok (.enter 23 args) w:=by
 have h:=Tryz.func23
 go_simp
theorem cz_commonsref06_New (args:Array Value) (w:World):(callFunc 6 args).run Tryz.prog w=.ok (.enter 6 args) w:=by
 have h:=Tryz.func6
 go_simp
theorem cz_commonsref06_SameReply (args:Array Value) (w:World):(callFunc 10 args).run Tryz.prog w=.ok (.enter 10 args) w:=by
 have h:=Tryz.func10
 go_simp
theorem cz_commonsref06_Sized (args:Array Value) (w:World):(callFunc 29 args).run Tryz.prog w=.ok (.enter 29 args) w:=by
 have h:=Tryz.func29
 go_simp
theorem cz_commonsref06_fails (args:Array Value) (w:World):(callFunc 11 args).run Tryz.prog w=.ok (.enter 11 args) w:=by
 have h:=Tryz.func11
 go_simp
theorem cz_commonsref06_paths (args:Array Value) (w:World):(callFunc 33 args).run Tryz.prog w=.ok (.enter 33 args) w:=by
 have h:=Tryz.func33
 go_simp
theorem cz_maps_Keys_map_string_posix_node_string_posix_node (args:Array Value) (w:World):(callFunc 90 args).run Tryz.prog w=.ok (.enter 90 args) w:=by
 have h:=Tryz.func90
 go_simp
theorem cz_names_Inside (args:Array Value) (w:World):(callFunc 79 args).run Tryz.prog w=.ok (.enter 79 args) w:=by
 have h:=Tryz.func79
 go_simp
theorem cz_names_Parent (args:Array Value) (w:World):(callFunc 84 args).run Tryz.prog w=.ok (.enter 84 args) w:=by
 have h:=Tryz.func84
 go_simp
theorem cz_names_Path (args:Array Value) (w:World):(callFunc 77 args).run Tryz.prog w=.ok (.enter 77 args) w:=by
 have h:=Tryz.func77
 go_simp
theorem cz_posix_Fs_Do (args:Array Value) (w:World):(callFunc 44 args).run Tryz.prog w=.ok (.enter 44 args) w:=by
 have h:=Tryz.func44
 go_simp
theorem cz_posix_Fs_doClose (args:Array Value) (w:World):(callFunc 56 args).run Tryz.prog w=.ok (.enter 56 args) w:=by
 have h:=Tryz.func56
 go_simp
theorem cz_posix_Fs_doLink (args:Array Value) (w:World):(callFunc 63 args).run Tryz.prog w=.ok (.enter 63 args) w:=by
 have h:=Tryz.func63
 go_simp
theorem cz_posix_Fs_doList (args:Array Value) (w:World):(callFunc 66 args).run Tryz.prog w=.ok (.enter 66 args) w:=by
 have h:=Tryz.func66
 go_simp
theorem cz_posix_Fs_doMkdir (args:Array Value) (w:World):(callFunc 61 args).run Tryz.prog w=.ok (.enter 61 args) w:=by
 have h:=Tryz.func61
 go_simp
theorem cz_posix_Fs_doOpen (args:Array Value) (w:World):(callFunc 55 args).run Tryz.prog w=.ok (.enter 55 args) w:=by
 have h:=Tryz.func55
 go_simp
theorem cz_posix_Fs_doRead (args:Array Value) (w:World):(callFunc 57 args).run Tryz.prog w=.ok (.enter 57 args) w:=by
 have h:=Tryz.func57
 go_simp
theorem cz_posix_Fs_doRename (args:Array Value) (w:World):(callFunc 65 args).run Tryz.prog w=.ok (.enter 65 args) w:=by
 have h:=Tryz.func65
 go_simp
theorem cz_posix_Fs_doRmdir (args:Array Value) (w:World):(callFunc 62 args).run Tryz.prog w=.ok (.enter 62 args) w:=by
 have h:=Tryz.func62
 go_simp
theorem cz_posix_Fs_doStat (args:Array Value) (w:World):(callFunc 67 args).run Tryz.prog w=.ok (.enter 67 args) w:=by
 have h:=Tryz.func67
 go_simp
theorem cz_posix_Fs_doSync (args:Array Value) (w:World):(callFunc 60 args).run Tryz.prog w=.ok (.enter 60 args) w:=by
 have h:=Tryz.func60
 go_simp
theorem cz_posix_Fs_doTrunc (args:Array Value) (w:World):(callFunc 59 args).run Tryz.prog w=.ok (.enter 59 args) w:=by
 have h:=Tryz.func59
 go_simp
theorem cz_posix_Fs_doUnlink (args:Array Value) (w:World):(callFunc 64 args).run Tryz.prog w=.ok (.enter 64 args) w:=by
 have h:=Tryz.func64
 go_simp
theorem cz_posix_Fs_doWrite (args:Array Value) (w:World):(callFunc 58 args).run Tryz.prog w=.ok (.enter 58 args) w:=by
 have h:=Tryz.func58
 go_simp
theorem cz_posix_Fs_file (args:Array Value) (w:World):(callFunc 74 args).run Tryz.prog w=.ok (.enter 74 args) w:=by
 have h:=Tryz.func74
 go_simp
theorem cz_posix_Fs_free (args:Array Value) (w:World):(callFunc 73 args).run Tryz.prog w=.ok (.enter 73 args) w:=by
 have h:=Tryz.func73
 go_simp
theorem cz_posix_Fs_method (args:Array Value) (w:World):(callFunc 51 args).run Tryz.prog w=.ok (.enter 51 args) w:=by
 have h:=Tryz.func51
 go_simp
theorem cz_posix_Fs_node (args:Array Value) (w:World):(callFunc 70 args).run Tryz.prog w=.ok (.enter 70 args) w:=by
 have h:=Tryz.func70
 go_simp
theorem cz_posix_Fs_openOld (args:Array Value) (w:World):(callFunc 71 args).run Tryz.prog w=.ok (.enter 71 args) w:=by
 have h:=Tryz.func71
 go_simp
theorem cz_posix_Fs_place (args:Array Value) (w:World):(callFunc 72 args).run Tryz.prog w=.ok (.enter 72 args) w:=by
 have h:=Tryz.func72
 go_simp
theorem cz_posix_Fs_remove (args:Array Value) (w:World):(callFunc 76 args).run Tryz.prog w=.ok (.enter 76 args) w:=by
 have h:=Tryz.func76
 go_simp
theorem cz_posix_Fs_walk (args:Array Value) (w:World):(callFunc 83 args).run Tryz.prog w=.ok (.enter 83 args) w:=by
 have h:=Tryz.func83
 go_simp
theorem cz_posix_New (args:Array Value) (w:World):(callFunc 24 args).run Tryz.prog w=.ok (.enter 24 args) w:=by
 have h:=Tryz.func24
 go_simp
theorem cz_posix_hasParent (args:Array Value) (w:World):(callFunc 78 args).run Tryz.prog w=.ok (.enter 78 args) w:=by
 have h:=Tryz.func78
 go_simp
theorem cz_posix_mayReplace (args:Array Value) (w:World):(callFunc 80 args).run Tryz.prog w=.ok (.enter 80 args) w:=by
 have h:=Tryz.func80
 go_simp
theorem cz_posix_newDir (args:Array Value) (w:World):(callFunc 37 args).run Tryz.prog w=.ok (.enter 37 args) w:=by
 have h:=Tryz.func37
 go_simp
theorem cz_posix_node_sorted (args:Array Value) (w:World):(callFunc 81 args).run Tryz.prog w=.ok (.enter 81 args) w:=by
 have h:=Tryz.func81
 go_simp
theorem cz_posix_resized (args:Array Value) (w:World):(callFunc 75 args).run Tryz.prog w=.ok (.enter 75 args) w:=by
 have h:=Tryz.func75
 go_simp
theorem cz_slices_Sorted_string (args:Array Value) (w:World):(callFunc 89 args).run Tryz.prog w=.ok (.enter 89 args) w:=by
 have h:=Tryz.func89
 go_simp
theorem cz_strings_Repeat (args:Array Value) (w:World):(callFunc 85 args).run Tryz.prog w=.ok (.enter 85 args) w:=by
 have h:=Tryz.func85
 go_simp
end Go.Proofs.YtpdjnefgkcmdnaaGreatDoor
