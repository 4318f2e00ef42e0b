import Derived.Test.YtlaffgagmncgjaaGreatDoorProg
import Derived.Test.YtlaffgagmncgjaaGreatDoorMem2
namespace Go.Pat
open Go
def TK.of:TypeDesc→Option TK
 | .int k=>some (.int k)
 | .bool=>some .bool
 | .string=>some .string
 | .pointer e=>some (.ptr e)
 | .slice e=>some (.slice e)
 | .struct fs=>some (.struct (fs.toList.map fun f=>(f.offset,f.type)))
 | .array n e=>some (.array n e)
 | _=>none
theorem fits_of {P:Program} {t:TypeId} {i:TI} (h1:(P.info? t).map (fun j=>(j.size,j.bytes,j.zero))=some (i.size,i.bytes,some i.zero)) (h2:(P.underlying t).bind TK.of=some i.kind):i.fits P t:=by
 constructor
 ·cases h:P.info? t with
  | none=>simp [h] at h1
  | some j=>simp [h] at h1;exact ⟨j,rfl,h1⟩
 ·cases h:P.underlying t with
  | none=>simp [h] at h2
  | some d =>
   simp only [h,Option.bind_some] at h2
   cases d<;>simp [TK.of] at h2<;>rw [← h2]<;>simp [TK.fits]
end Go.Pat
namespace Go.Proofs.YtlaffgagmncgjaaGreatDoor
open Tryz Go Go.Pat Go.Proofs
theorem tab3:(⟨1,8,.int .i64 0,.int .i64⟩:TI).fits Tryz.prog 3:=fits_of (by kernel_rfl) (by kernel_rfl)
theorem tab9:(⟨1,16,.string (str []),.string⟩:TI).fits Tryz.prog 9:=fits_of (by kernel_rfl) (by kernel_rfl)
theorem tab4:(⟨1,1,.bool false,.bool⟩:TI).fits Tryz.prog 4:=fits_of (by kernel_rfl) (by kernel_rfl)
theorem tab2:(⟨1,8,.int .i64 0,.int .i64⟩:TI).fits Tryz.prog 2:=fits_of (by kernel_rfl) (by kernel_rfl)
theorem tab5:(⟨1,1,.int .u8 0,.int .u8⟩:TI).fits Tryz.prog 5:=fits_of (by kernel_rfl) (by kernel_rfl)
theorem tab21:(⟨1,4,.int .i32 0,.int .i32⟩:TI).fits Tryz.prog 21:=fits_of (by kernel_rfl) (by kernel_rfl)
theorem tab22:(⟨1,24,.slice none 0 0,.slice 49⟩:TI).fits Tryz.prog 22:=fits_of (by kernel_rfl) (by kernel_rfl)
theorem tab25:(⟨1,24,.slice none 0 0,.slice 9⟩:TI).fits Tryz.prog 25:=fits_of (by kernel_rfl) (by kernel_rfl)
theorem tab26:(⟨1,8,.pointer none,.ptr 32⟩:TI).fits Tryz.prog 26:=fits_of (by kernel_rfl) (by kernel_rfl)
theorem tab27:(⟨1,8,.pointer none,.ptr 55⟩:TI).fits Tryz.prog 27:=fits_of (by kernel_rfl) (by kernel_rfl)
theorem tab29:(⟨1,8,.pointer none,.ptr 61⟩:TI).fits Tryz.prog 29:=fits_of (by kernel_rfl) (by kernel_rfl)
theorem tab32:(⟨2,16,.agg #[.pointer none,.pointer none],.struct [(0,27),(1,29)]⟩:TI).fits Tryz.prog 32:=fits_of (by kernel_rfl) (by kernel_rfl)
theorem tab34:(⟨1,8,.pointer none,.ptr 39⟩:TI).fits Tryz.prog 34:=fits_of (by kernel_rfl) (by kernel_rfl)
theorem tab35:(⟨1,24,.slice none 0 0,.slice 32⟩:TI).fits Tryz.prog 35:=fits_of (by kernel_rfl) (by kernel_rfl)
theorem tab36:(⟨1,24,.slice none 0 0,.slice 25⟩:TI).fits Tryz.prog 36:=fits_of (by kernel_rfl) (by kernel_rfl)
theorem tab37:(⟨1,24,.slice none 0 0,.slice 69⟩:TI).fits Tryz.prog 37:=fits_of (by kernel_rfl) (by kernel_rfl)
theorem tab39:(⟨5,120,.agg #[.slice none 0 0,.slice none 0 0,.slice none 0 0,.slice none 0 0,.slice none 0 0],.struct [(0,35),(1,25),(2,25),(3,36),(4,37)]⟩:TI).fits Tryz.prog 39:=fits_of (by kernel_rfl) (by kernel_rfl)
theorem tab49:(⟨6,64,.agg #[.int .i64 0,.int .i64 0,.int .i64 0,.int .i64 0,.string (str []),.string (str [])],.struct [(0,3),(1,3),(2,3),(3,3),(4,9),(5,9)]⟩:TI).fits Tryz.prog 49:=fits_of (by kernel_rfl) (by kernel_rfl)
theorem tab53:(⟨1,24,.slice none 0 0,.slice 81⟩:TI).fits Tryz.prog 53:=fits_of (by kernel_rfl) (by kernel_rfl)
theorem tab55:(⟨1,24,.agg #[.slice none 0 0],.struct [(0,53)]⟩:TI).fits Tryz.prog 55:=fits_of (by kernel_rfl) (by kernel_rfl)
theorem tab56:(⟨1,8,.pointer none,.ptr 59⟩:TI).fits Tryz.prog 56:=fits_of (by kernel_rfl) (by kernel_rfl)
theorem tab57:(⟨1,24,.slice none 0 0,.slice 77⟩:TI).fits Tryz.prog 57:=fits_of (by kernel_rfl) (by kernel_rfl)
theorem tab59:(⟨1,24,.agg #[.slice none 0 0],.struct [(0,57)]⟩:TI).fits Tryz.prog 59:=fits_of (by kernel_rfl) (by kernel_rfl)
theorem tab61:(⟨1,8,.agg #[.pointer none],.struct [(0,56)]⟩:TI).fits Tryz.prog 61:=fits_of (by kernel_rfl) (by kernel_rfl)
theorem tab62:(⟨1,8,.int .i64 0,.int .i64⟩:TI).fits Tryz.prog 62:=fits_of (by kernel_rfl) (by kernel_rfl)
theorem tab69:(⟨1,24,.slice none 0 0,.slice 3⟩:TI).fits Tryz.prog 69:=fits_of (by kernel_rfl) (by kernel_rfl)
theorem tab77:(⟨1,8,.pointer none,.ptr 81⟩:TI).fits Tryz.prog 77:=fits_of (by kernel_rfl) (by kernel_rfl)
theorem tab79:(⟨1,24,.slice none 0 0,.slice 107⟩:TI).fits Tryz.prog 79:=fits_of (by kernel_rfl) (by kernel_rfl)
theorem tab81:(⟨3,56,.agg #[.int .i64 0,.slice none 0 0,.slice none 0 0],.struct [(0,3),(1,69),(2,79)]⟩:TI).fits Tryz.prog 81:=fits_of (by kernel_rfl) (by kernel_rfl)
theorem tab101:(⟨1,24,.slice none 0 0,.slice 127⟩:TI).fits Tryz.prog 101:=fits_of (by kernel_rfl) (by kernel_rfl)
theorem tab105:(⟨2,16,.agg #[.int .i64 0,.int .i64 0],.struct [(0,3),(1,3)]⟩:TI).fits Tryz.prog 105:=fits_of (by kernel_rfl) (by kernel_rfl)
theorem tab107:(⟨6,56,.agg #[.int .i64 0,.int .i64 0,.int .i64 0,.int .i64 0,.int .i64 0,.string (str [])],.struct [(0,3),(1,105),(3,105),(5,9)]⟩:TI).fits Tryz.prog 107:=fits_of (by kernel_rfl) (by kernel_rfl)
theorem tab109:(⟨1,24,.slice none 0 0,.slice 113⟩:TI).fits Tryz.prog 109:=fits_of (by kernel_rfl) (by kernel_rfl)
theorem tab113:(⟨5,56,.agg #[.int .i64 0,.int .i64 0,.string (str []),.string (str []),.int .i64 0],.struct [(0,105),(2,9),(3,9),(4,3)]⟩:TI).fits Tryz.prog 113:=fits_of (by kernel_rfl) (by kernel_rfl)
theorem tab114:(⟨1,8,.pointer none,.ptr 131⟩:TI).fits Tryz.prog 114:=fits_of (by kernel_rfl) (by kernel_rfl)
theorem tab122:(⟨1,24,.slice none 0 0,.slice 125⟩:TI).fits Tryz.prog 122:=fits_of (by kernel_rfl) (by kernel_rfl)
theorem tab125:(⟨4,32,.agg #[.int .i64 0,.int .u8 0,.int .i64 0,.int .i64 0],.struct [(0,3),(1,5),(2,3),(3,3)]⟩:TI).fits Tryz.prog 125:=fits_of (by kernel_rfl) (by kernel_rfl)
theorem tab127:(⟨7,64,.agg #[.int .i64 0,.int .i64 0,.int .i64 0,.int .i64 0,.int .i64 0,.int .i64 0,.string (str [])],.struct [(0,105),(2,105),(4,105),(6,9)]⟩:TI).fits Tryz.prog 127:=fits_of (by kernel_rfl) (by kernel_rfl)
theorem tab128:(⟨1,24,.slice none 0 0,.slice 129⟩:TI).fits Tryz.prog 128:=fits_of (by kernel_rfl) (by kernel_rfl)
theorem tab129:(⟨1,24,.slice none 0 0,.slice 4⟩:TI).fits Tryz.prog 129:=fits_of (by kernel_rfl) (by kernel_rfl)
theorem tab131:(⟨5,104,.agg #[.pointer none,.slice none 0 0,.slice none 0 0,.slice none 0 0,.slice none 0 0],.struct [(0,56),(1,101),(2,128),(3,129),(4,69)]⟩:TI).fits Tryz.prog 131:=fits_of (by kernel_rfl) (by kernel_rfl)
theorem tab138:(⟨1,24,.slice none 0 0,.slice 5⟩:TI).fits Tryz.prog 138:=fits_of (by kernel_rfl) (by kernel_rfl)
theorem tab142:(⟨1,8,.pointer none,.ptr 144⟩:TI).fits Tryz.prog 142:=fits_of (by kernel_rfl) (by kernel_rfl)
theorem tab144:(⟨2,24,.agg #[.string (str []),.int .i64 0],.struct [(0,9),(1,3)]⟩:TI).fits Tryz.prog 144:=fits_of (by kernel_rfl) (by kernel_rfl)
theorem tab160:(⟨1,8,.pointer none,.ptr 190⟩:TI).fits Tryz.prog 160:=fits_of (by kernel_rfl) (by kernel_rfl)
theorem tab165:(⟨1,8,.pointer none,.ptr 168⟩:TI).fits Tryz.prog 165:=fits_of (by kernel_rfl) (by kernel_rfl)
theorem tab166:(⟨1,24,.slice none 0 0,.slice 105⟩:TI).fits Tryz.prog 166:=fits_of (by kernel_rfl) (by kernel_rfl)
theorem tab168:(⟨6,112,.agg #[.int .i64 0,.pointer none,.slice none 0 0,.slice none 0 0,.slice none 0 0,.slice none 0 0],.struct [(0,3),(1,160),(2,109),(3,25),(4,166),(5,79)]⟩:TI).fits Tryz.prog 168:=fits_of (by kernel_rfl) (by kernel_rfl)
theorem tab174:(⟨1,24,.slice none 0 0,.slice 175⟩:TI).fits Tryz.prog 174:=fits_of (by kernel_rfl) (by kernel_rfl)
theorem tab175:(⟨4,32,.agg #[.int .i64 0,.int .i64 0,.int .i64 0,.int .i64 0],.array 4 3⟩:TI).fits Tryz.prog 175:=fits_of (by kernel_rfl) (by kernel_rfl)
theorem tab188:(⟨1,24,.slice none 0 0,.slice 192⟩:TI).fits Tryz.prog 188:=fits_of (by kernel_rfl) (by kernel_rfl)
theorem tab190:(⟨4,96,.agg #[.slice none 0 0,.slice none 0 0,.slice none 0 0,.slice none 0 0],.struct [(0,53),(1,37),(2,188),(3,128)]⟩:TI).fits Tryz.prog 190:=fits_of (by kernel_rfl) (by kernel_rfl)
theorem tab192:(⟨13,104,.agg #[.int .i64 0,.int .i64 0,.int .i64 0,.int .i64 0,.int .i64 0,.int .i64 0,.string (str []),.int .i64 0,.bool false,.bool false,.int .i64 0,.int .i64 0,.int .i64 0],.struct [(0,105),(2,105),(4,105),(6,9),(7,3),(8,4),(9,4),(10,3),(11,3),(12,3)]⟩:TI).fits Tryz.prog 192:=fits_of (by kernel_rfl) (by kernel_rfl)
theorem tab211:(⟨24,24,.agg #[.int .u8 0,.int .u8 0,.int .u8 0,.int .u8 0,.int .u8 0,.int .u8 0,.int .u8 0,.int .u8 0,.int .u8 0,.int .u8 0,.int .u8 0,.int .u8 0,.int .u8 0,.int .u8 0,.int .u8 0,.int .u8 0,.int .u8 0,.int .u8 0,.int .u8 0,.int .u8 0,.int .u8 0,.int .u8 0,.int .u8 0,.int .u8 0],.array 24 5⟩:TI).fits Tryz.prog 211:=fits_of (by kernel_rfl) (by kernel_rfl)
theorem tab212:(⟨1,8,.int .u64 0,.int .u64⟩:TI).fits Tryz.prog 212:=fits_of (by kernel_rfl) (by kernel_rfl)
theorem tab219:(⟨1,4,.int .u32 0,.int .u32⟩:TI).fits Tryz.prog 219:=fits_of (by kernel_rfl) (by kernel_rfl)
theorem tab221:(⟨1,8,.int .u64 0,.int .u64⟩:TI).fits Tryz.prog 221:=fits_of (by kernel_rfl) (by kernel_rfl)
theorem tab235:(⟨1,8,.pointer none,.ptr 5⟩:TI).fits Tryz.prog 235:=fits_of (by kernel_rfl) (by kernel_rfl)
def tab:Tab:=[
 (3,⟨1,8,.int .i64 0,.int .i64⟩),
 (9,⟨1,16,.string (str []),.string⟩),
 (4,⟨1,1,.bool false,.bool⟩),
 (2,⟨1,8,.int .i64 0,.int .i64⟩),
 (5,⟨1,1,.int .u8 0,.int .u8⟩),
 (21,⟨1,4,.int .i32 0,.int .i32⟩),
 (22,⟨1,24,.slice none 0 0,.slice 49⟩),
 (25,⟨1,24,.slice none 0 0,.slice 9⟩),
 (26,⟨1,8,.pointer none,.ptr 32⟩),
 (27,⟨1,8,.pointer none,.ptr 55⟩),
 (29,⟨1,8,.pointer none,.ptr 61⟩),
 (32,⟨2,16,.agg #[.pointer none,.pointer none],.struct [(0,27),(1,29)]⟩),
 (34,⟨1,8,.pointer none,.ptr 39⟩),
 (35,⟨1,24,.slice none 0 0,.slice 32⟩),
 (36,⟨1,24,.slice none 0 0,.slice 25⟩),
 (37,⟨1,24,.slice none 0 0,.slice 69⟩),
 (39,⟨5,120,.agg #[.slice none 0 0,.slice none 0 0,.slice none 0 0,.slice none 0 0,.slice none 0 0],.struct [(0,35),(1,25),(2,25),(3,36),(4,37)]⟩),
 (49,⟨6,64,.agg #[.int .i64 0,.int .i64 0,.int .i64 0,.int .i64 0,.string (str []),.string (str [])],.struct [(0,3),(1,3),(2,3),(3,3),(4,9),(5,9)]⟩),
 (53,⟨1,24,.slice none 0 0,.slice 81⟩),
 (55,⟨1,24,.agg #[.slice none 0 0],.struct [(0,53)]⟩),
 (56,⟨1,8,.pointer none,.ptr 59⟩),
 (57,⟨1,24,.slice none 0 0,.slice 77⟩),
 (59,⟨1,24,.agg #[.slice none 0 0],.struct [(0,57)]⟩),
 (61,⟨1,8,.agg #[.pointer none],.struct [(0,56)]⟩),
 (62,⟨1,8,.int .i64 0,.int .i64⟩),
 (69,⟨1,24,.slice none 0 0,.slice 3⟩),
 (77,⟨1,8,.pointer none,.ptr 81⟩),
 (79,⟨1,24,.slice none 0 0,.slice 107⟩),
 (81,⟨3,56,.agg #[.int .i64 0,.slice none 0 0,.slice none 0 0],.struct [(0,3),(1,69),(2,79)]⟩),
 (101,⟨1,24,.slice none 0 0,.slice 127⟩),
 (105,⟨2,16,.agg #[.int .i64 0,.int .i64 0],.struct [(0,3),(1,3)]⟩),
 (107,⟨6,56,.agg #[.int .i64 0,.int .i64 0,.int .i64 0,.int .i64 0,.int .i64 0,.string (str [])],.struct [(0,3),(1,105),(3,105),(5,9)]⟩),
 (109,⟨1,24,.slice none 0 0,.slice 113⟩),
 (113,⟨5,56,.agg #[.int .i64 0,.int .i64 0,.string (str []),.string (str []),.int .i64 0],.struct [(0,105),(2,9),(3,9),(4,3)]⟩),
 (114,⟨1,8,.pointer none,.ptr 131⟩),
 (122,⟨1,24,.slice none 0 0,.slice 125⟩),
 (125,⟨4,32,.agg #[.int .i64 0,.int .u8 0,.int .i64 0,.int .i64 0],.struct [(0,3),(1,5),(2,3),(3,3)]⟩),
 (127,⟨7,64,.agg #[.int .i64 0,.int .i64 0,.int .i64 0,.int .i64 0,.int .i64 0,.int .i64 0,.string (str [])],.struct [(0,105),(2,105),(4,105),(6,9)]⟩),
 (128,⟨1,24,.slice none 0 0,.slice 129⟩),
 (129,⟨1,24,.slice none 0 0,.slice 4⟩),
 (131,⟨5,104,.agg #[.pointer none,.slice none 0 0,.slice none 0 0,.slice none 0 0,.slice none 0 0],.struct [(0,56),(1,101),(2,128),(3,129),(4,69)]⟩),
 (138,⟨1,24,.slice none 0 0,.slice 5⟩),
 (142,⟨1,8,.pointer none,.ptr 144⟩),
 (144,⟨2,24,.agg #[.string (str []),.int .i64 0],.struct [(0,9),(1,3)]⟩),
 (160,⟨1,8,.pointer none,.ptr 190⟩),
 (165,⟨1,8,.pointer none,.ptr 168⟩),
 (166,⟨1,24,.slice none 0 0,.slice 105⟩),
 (168,⟨6,112,.agg #[.int .i64 0,.pointer none,.slice none 0 0,.slice none 0 0,.slice none 0 0,.slice none 0 0],.struct [(0,3),(1,160),(2,109),(3,25),(4,166),(5,79)]⟩),
 (174,⟨1,24,.slice none 0 0,.slice 175⟩),
 (175,⟨4,32,.agg #[.int .i64 0,.int .i64 0,.int .i64 0,.int .i64 0],.array 4 3⟩),
 (188,⟨1,24,.slice none 0 0,.slice 192⟩),
 (190,⟨4,96,.agg #[.slice none 0 0,.slice none 0 0,.slice none 0 0,.slice none 0 0],.struct [(0,53),(1,37),(2,188),(3,128)]⟩),
 (192,⟨13,104,.agg #[.int .i64 0,.int .i64 0,.int .i64 0,.int .i64 0,.int .i64 0,.int .i64 0,.string (str []),.int .i64 0,.bool false,.bool false,.int .i64 0,.int .i64 0,.int .i64 0],.struct [(0,105),(2,105),(4,105),(6,9),(7,3),(8,4),(9,4),(10,3),(11,3),(12,3)]⟩),
 (211,⟨24,24,.agg #[.int .u8 0,.int .u8 0,.int .u8 0,.int .u8 0,.int .u8 0,.int .u8 0,.int .u8 0,.int .u8 0,.int .u8 0,.int .u8 0,.int .u8 0,.int .u8 0,.int .u8 0,.int .u8 0,.int .u8 0,.int .u8 0,.int .u8 0,.int .u8 0,.int .u8 0,.int .u8 0,.int .u8 0,.int .u8 0,.int .u8 0,.int .u8 0],.array 24 5⟩),
 (212,⟨1,8,.int .u64 0,.int .u64⟩),
 (219,⟨1,4,.int .u32 0,.int .u32⟩),
 (221,⟨1,8,.int .u64 0,.int .u64⟩),
 (235,⟨1,8,.pointer none,.ptr 5⟩)]
theorem tab_ok:tab.ok Tryz.prog:=by
 intro p hp
 simp only [tab,List.mem_cons,List.not_mem_nil,or_false] at hp
 rcases hp with rfl | rfl | rfl | rfl | rfl | rfl | rfl | rfl | rfl | rfl | rfl | rfl | rfl | rfl | rfl | rfl | rfl | rfl | rfl | rfl | rfl | rfl | rfl | rfl | rfl | rfl | rfl | rfl | rfl | rfl | rfl | rfl | rfl | rfl | rfl | rfl | rfl | rfl | rfl | rfl | rfl | rfl | rfl | rfl | rfl | rfl | rfl | rfl | rfl | rfl | rfl | rfl | rfl | rfl | rfl | rfl | rfl | rfl
 ·exact tab3
 ·exact tab9
 ·exact tab4
 ·exact tab2
 ·exact tab5
 ·exact tab21
 ·exact tab22
 ·exact tab25
 ·exact tab26
 ·exact tab27
 ·exact tab29
 ·exact tab32
 ·exact tab34
 ·exact tab35
 ·exact tab36
 ·exact tab37
 ·exact tab39
 ·exact tab49
 ·exact tab53
 ·exact tab55
 ·exact tab56
 ·exact tab57
 ·exact tab59
 ·exact tab61
 ·exact tab62
 ·exact tab69
 ·exact tab77
 ·exact tab79
 ·exact tab81
 ·exact tab101
 ·exact tab105
 ·exact tab107
 ·exact tab109
 ·exact tab113
 ·exact tab114
 ·exact tab122
 ·exact tab125
 ·exact tab127
 ·exact tab128
 ·exact tab129
 ·exact tab131
 ·exact tab138
 ·exact tab142
 ·exact tab144
 ·exact tab160
 ·exact tab165
 ·exact tab166
 ·exact tab168
 ·exact tab174
 ·exact tab175
 ·exact tab188
 ·exact tab190
 ·exact tab192
 ·exact tab211
 ·exact tab212
 ·exact tab219
 ·exact tab221
 ·exact tab235
theorem mixed:Tryz.prog.follows .mixedOrders=true:=by kernel_rfl
end Go.Proofs.YtlaffgagmncgjaaGreatDoor
namespace Go.Proofs.YtlaffgagmncgjaaGreatDoor
open Tryz Go Go.Pat
section
variable {n d:Nat} {ops:Array Oper} {l:List Oper} {K:Env→Heap→Prop} {o:Oper} {env:Env} {h:Heap}
theorem zo1 {v:Value} (hk:WO Tryz.prog n ops l K ((d,v)::env) h) (hv:pv tab env o.op=some v:=by exact rfl) (hg:gd ops env o=some true:=by exact rfl) (hd:o.dst=some d:=by exact rfl) (hn:Nat.blt d n=true:=by exact rfl) :
  WO Tryz.prog n ops (o::l) K env h:=WO.val (ov_pv tab_ok hv) hg hd hn hk
theorem zo2 {t:TypeId} {x:Operand} {b p:Nat} {v:Value} {i:TI} (hk:WO Tryz.prog n ops l K ((d,v)::env) h) (ho:o.op = .load t x:=by exact rfl) (hx:env.ev? x=some (.pointer (some ⟨b,p,none⟩)):=by exact rfl) (ht:tab.get? t=some i:=by exact rfl) (hag:i.kind.agg=false:=by exact rfl) (hv:cellAt h b p=some v:=by assumption) (hg:gd ops env o=some true:=by exact rfl) (hd:o.dst=some d:=by exact rfl) (hn:Nat.blt d n=true:=by exact rfl) :
  WO Tryz.prog n ops (o::l) K env h:=WO.val (ov_load tab_ok ho hx ht hag hv) hg hd hn hk
theorem zo3 {t:TypeId} {x:Operand} {b p:Nat} {c:List Value} {i:TI} (hk:WO Tryz.prog n ops l K ((d,.agg c.toArray)::env) h) (ho:o.op = .load t x:=by exact rfl) (hx:env.ev? x=some (.pointer (some ⟨b,p,none⟩)):=by exact rfl) (ht:tab.get? t=some i:=by exact rfl) (hag:i.kind.agg=true:=by exact rfl) (hv:Cells h b p c:=by first | assumption | exact Blk.cells (by assumption)) (hl:c.length=i.size:=by exact rfl) (hg:gd ops env o=some true:=by exact rfl) (hd:o.dst=some d:=by exact rfl) (hn:Nat.blt d n=true:=by exact rfl) :
  WO Tryz.prog n ops (o::l) K env h:=WO.val (ov_loads tab_ok ho hx ht hag hl hv) hg hd hn hk
theorem zo4 {t:TypeId} {x i:Operand} {b p len cap:Nat} {k:IntKind} {q:Int} {j:Nat} {e:TypeId} {sz by_ esz eby:Nat} {z ez:Value} {ek:TK} (hk:WO Tryz.prog n ops l K ((d,.pointer (some ⟨b,p+j*esz,none⟩))::env) h) (ho:o.op = .indexAddr t x i:=by exact rfl) (hx:env.ev? x=some (.slice (some ⟨b,p,none⟩) len cap):=by exact rfl) (hi:env.ev? i=some (.int k q):=by exact rfl) (ht:tab.get? t=some ⟨sz,by_,z,.slice e⟩:=by exact rfl) (he:tab.get? e=some ⟨esz,eby,ez,ek⟩:=by exact rfl) (hq:natOf q=some j:=by exact rfl) (hj:j<len:=by first | omega | exact ltl 0 rfl (by omega) | exact ltl 1 rfl (by omega) | exact ltl 2 rfl (by omega) | exact Nat.le_of_ble_eq_true rfl) (hg:gd ops env o=some true:=by exact rfl) (hd:o.dst=some d:=by exact rfl) (hn:Nat.blt d n=true:=by exact rfl) :
  WO Tryz.prog n ops (o::l) K env h:=WO.val (ov_indexAddr tab_ok ho hx hi ht he hq hj) hg hd hn hk
theorem zo5 {t:TypeId} {x i:Operand} {c:List UInt8} {k:IntKind} {q:Int} {j:Nat} {u:UInt8} {sz by_:Nat} {z:Value} (hk:WO Tryz.prog n ops l K ((d,.int .u8 (u.toNat:Int))::env) h) (ho:o.op = .index t x i:=by exact rfl) (hx:env.ev? x=some (.string (str c)):=by exact rfl) (hi:env.ev? i=some (.int k q):=by exact rfl) (ht:tab.get? t=some ⟨sz,by_,z,.string⟩:=by exact rfl) (hq:natOf q=some j:=by exact rfl) (hj:c[j]? = some u:=by assumption) (hg:gd ops env o=some true:=by exact rfl) (hd:o.dst=some d:=by exact rfl) (hn:Nat.blt d n=true:=by exact rfl) :
  WO Tryz.prog n ops (o::l) K env h:=WO.val (ov_index tab_ok ho hx hi ht hq hj) hg hd hn hk
theorem zo6 {t u:TypeId} {x y:Operand} {k:IntKind} {p q:Int} (hk:WO Tryz.prog n ops l K ((d,.int k (p+q))::env) h) (ho:o.op = .binOp .add t x y u:=by exact rfl) (hx:env.ev? x=some (.int k p):=by exact rfl) (hy:env.ev? y=some (.int k q):=by exact rfl) (hr:inK k (p+q):=by exact in_i64 (by omega) (by omega)) (hg:gd ops env o=some true:=by exact rfl) (hd:o.dst=some d:=by exact rfl) (hn:Nat.blt d n=true:=by exact rfl) :
  WO Tryz.prog n ops (o::l) K env h:=WO.val (ov_add ho hx hy hr) hg hd hn hk
theorem zo7 {t u:TypeId} {x y:Operand} {k:IntKind} {p q:Int} (hk:WO Tryz.prog n ops l K ((d,.int k (p-q))::env) h) (ho:o.op = .binOp .sub t x y u:=by exact rfl) (hx:env.ev? x=some (.int k p):=by exact rfl) (hy:env.ev? y=some (.int k q):=by exact rfl) (hr:inK k (p-q):=by exact in_i64 (by omega) (by omega)) (hg:gd ops env o=some true:=by exact rfl) (hd:o.dst=some d:=by exact rfl) (hn:Nat.blt d n=true:=by exact rfl) :
  WO Tryz.prog n ops (o::l) K env h:=WO.val (ov_sub ho hx hy hr) hg hd hn hk
theorem zo8 {t u:TypeId} {x y:Operand} {k:IntKind} {p q:Int} (hk:WO Tryz.prog n ops l K ((d,.int k (p*q))::env) h) (ho:o.op = .binOp .mul t x y u:=by exact rfl) (hx:env.ev? x=some (.int k p):=by exact rfl) (hy:env.ev? y=some (.int k q):=by exact rfl) (hr:inK k (p*q):=by exact in_i64 (by omega) (by omega)) (hg:gd ops env o=some true:=by exact rfl) (hd:o.dst=some d:=by exact rfl) (hn:Nat.blt d n=true:=by exact rfl) :
  WO Tryz.prog n ops (o::l) K env h:=WO.val (ov_mul ho hx hy hr) hg hd hn hk
theorem zo9 {s t:TypeId} {x:Operand} {k k':IntKind} {q:Int} {i:TI} {sz by_:Nat} {z:Value} (hk:WO Tryz.prog n ops l K ((d,.int k' q)::env) h) (ho:o.op = .convert s t x:=by exact rfl) (hx:env.ev? x=some (.int k q):=by exact rfl) (hs:tab.get? s=some i:=by exact rfl) (ht:tab.get? t=some ⟨sz,by_,z,.int k'⟩:=by exact rfl) (hr:inK k' q:=by exact in_i64 (by omega) (by omega)) (hg:gd ops env o=some true:=by exact rfl) (hd:o.dst=some d:=by exact rfl) (hn:Nat.blt d n=true:=by exact rfl) :
  WO Tryz.prog n ops (o::l) K env h:=WO.val (ov_conv tab_ok ho hx hs ht hr) hg hd hn hk
theorem zo10 {t u:TypeId} {x y:Operand} {p q:List UInt8} (hk:WO Tryz.prog n ops l K ((d,.string (str (p++q)))::env) h) (ho:o.op = .binOp .add t x y u:=by exact rfl) (hx:env.ev? x=some (.string (str p)):=by exact rfl) (hy:env.ev? y=some (.string (str q)):=by exact rfl) (hr:p.length+q.length≤9223372036854775807:=by first | omega | (simp<;>omega)) (hg:gd ops env o=some true:=by exact rfl) (hd:o.dst=some d:=by exact rfl) (hn:Nat.blt d n=true:=by exact rfl) :
  WO Tryz.prog n ops (o::l) K env h:=WO.val (ov_sadd ho hx hy hr) hg hd hn hk
theorem zo11 {t:TypeId} {x lo hi:Operand} {c:List UInt8} {k k':IntKind} {p q:Int} {i j:Nat} {sz by_:Nat} {z:Value} (hk:WO Tryz.prog n ops l K ((d,.string (str ((c.take j).drop i)))::env) h) (ho:o.op = .slice t x (some lo) (some hi) none:=by exact rfl) (hx:env.ev? x=some (.string (str c)):=by exact rfl) (hlo:env.ev? lo=some (.int k p):=by exact rfl) (hhi:env.ev? hi=some (.int k' q):=by exact rfl) (ht:tab.get? t=some ⟨sz,by_,z,.string⟩:=by exact rfl) (hp:natOf p=some i:=by exact rfl) (hq:natOf q=some j:=by exact rfl) (hij:i≤j:=by omega) (hj:j≤c.length:=by omega) (hg:gd ops env o=some true:=by exact rfl) (hd:o.dst=some d:=by exact rfl) (hn:Nat.blt d n=true:=by exact rfl) :
  WO Tryz.prog n ops (o::l) K env h:=WO.val (ov_sslice tab_ok ho hx hlo hhi ht hp hq hij hj) hg hd hn hk
theorem zo12 {t:TypeId} {x lo:Operand} {c:List UInt8} {k:IntKind} {p:Int} {i:Nat} {sz by_:Nat} {z:Value} (hk:WO Tryz.prog n ops l K ((d,.string (str (c.drop i)))::env) h) (ho:o.op = .slice t x (some lo) none none:=by exact rfl) (hx:env.ev? x=some (.string (str c)):=by exact rfl) (hlo:env.ev? lo=some (.int k p):=by exact rfl) (ht:tab.get? t=some ⟨sz,by_,z,.string⟩:=by exact rfl) (hp:natOf p=some i:=by exact rfl) (hi:i≤c.length:=by omega) (hg:gd ops env o=some true:=by exact rfl) (hd:o.dst=some d:=by exact rfl) (hn:Nat.blt d n=true:=by exact rfl) :
  WO Tryz.prog n ops (o::l) K env h:=WO.val (ov_sslice_lo tab_ok ho hx hlo ht hp hi) hg hd hn hk
theorem zo0 (hk:WO Tryz.prog n ops l K ((d,undef)::env) h) (hg:gd ops env o=some false:=by exact rfl) (hd:o.dst=some d:=by exact rfl) (hn:Nat.blt d n=true:=by exact rfl) :
  WO Tryz.prog n ops (o::l) K env h:=WO.pass hg hd hn hk
end
section
variable {n d:Nat} {ops:Array Oper} {l:List Oper} {K:Env→Prop} {o:Oper} {env:Env} {h:Heap}
theorem zs1 {v:Value} (hk:WS Tryz.prog n ops l K ((d,v)::env) h) (hv:pv tab env o.op=some v:=by exact rfl) (hg:gd ops env o=some true:=by exact rfl) (hd:o.dst=some d:=by exact rfl) (hn:Nat.blt d n=true:=by exact rfl) :
  WS Tryz.prog n ops (o::l) K env h:=WS.val (ov_pv tab_ok hv) hg hd hn hk
theorem zs2 {t:TypeId} {x:Operand} {b p:Nat} {v:Value} {i:TI} (hk:WS Tryz.prog n ops l K ((d,v)::env) h) (ho:o.op = .load t x:=by exact rfl) (hx:env.ev? x=some (.pointer (some ⟨b,p,none⟩)):=by exact rfl) (ht:tab.get? t=some i:=by exact rfl) (hag:i.kind.agg=false:=by exact rfl) (hv:cellAt h b p=some v:=by assumption) (hg:gd ops env o=some true:=by exact rfl) (hd:o.dst=some d:=by exact rfl) (hn:Nat.blt d n=true:=by exact rfl) :
  WS Tryz.prog n ops (o::l) K env h:=WS.val (ov_load tab_ok ho hx ht hag hv) hg hd hn hk
theorem zs3 {t:TypeId} {x:Operand} {b p:Nat} {c:List Value} {i:TI} (hk:WS Tryz.prog n ops l K ((d,.agg c.toArray)::env) h) (ho:o.op = .load t x:=by exact rfl) (hx:env.ev? x=some (.pointer (some ⟨b,p,none⟩)):=by exact rfl) (ht:tab.get? t=some i:=by exact rfl) (hag:i.kind.agg=true:=by exact rfl) (hv:Cells h b p c:=by first | assumption | exact Blk.cells (by assumption)) (hl:c.length=i.size:=by exact rfl) (hg:gd ops env o=some true:=by exact rfl) (hd:o.dst=some d:=by exact rfl) (hn:Nat.blt d n=true:=by exact rfl) :
  WS Tryz.prog n ops (o::l) K env h:=WS.val (ov_loads tab_ok ho hx ht hag hl hv) hg hd hn hk
theorem zs4 {t:TypeId} {x i:Operand} {b p len cap:Nat} {k:IntKind} {q:Int} {j:Nat} {e:TypeId} {sz by_ esz eby:Nat} {z ez:Value} {ek:TK} (hk:WS Tryz.prog n ops l K ((d,.pointer (some ⟨b,p+j*esz,none⟩))::env) h) (ho:o.op = .indexAddr t x i:=by exact rfl) (hx:env.ev? x=some (.slice (some ⟨b,p,none⟩) len cap):=by exact rfl) (hi:env.ev? i=some (.int k q):=by exact rfl) (ht:tab.get? t=some ⟨sz,by_,z,.slice e⟩:=by exact rfl) (he:tab.get? e=some ⟨esz,eby,ez,ek⟩:=by exact rfl) (hq:natOf q=some j:=by exact rfl) (hj:j<len:=by first | omega | exact ltl 0 rfl (by omega) | exact ltl 1 rfl (by omega) | exact ltl 2 rfl (by omega) | exact Nat.le_of_ble_eq_true rfl) (hg:gd ops env o=some true:=by exact rfl) (hd:o.dst=some d:=by exact rfl) (hn:Nat.blt d n=true:=by exact rfl) :
  WS Tryz.prog n ops (o::l) K env h:=WS.val (ov_indexAddr tab_ok ho hx hi ht he hq hj) hg hd hn hk
theorem zs5 {t:TypeId} {x i:Operand} {c:List UInt8} {k:IntKind} {q:Int} {j:Nat} {u:UInt8} {sz by_:Nat} {z:Value} (hk:WS Tryz.prog n ops l K ((d,.int .u8 (u.toNat:Int))::env) h) (ho:o.op = .index t x i:=by exact rfl) (hx:env.ev? x=some (.string (str c)):=by exact rfl) (hi:env.ev? i=some (.int k q):=by exact rfl) (ht:tab.get? t=some ⟨sz,by_,z,.string⟩:=by exact rfl) (hq:natOf q=some j:=by exact rfl) (hj:c[j]? = some u:=by assumption) (hg:gd ops env o=some true:=by exact rfl) (hd:o.dst=some d:=by exact rfl) (hn:Nat.blt d n=true:=by exact rfl) :
  WS Tryz.prog n ops (o::l) K env h:=WS.val (ov_index tab_ok ho hx hi ht hq hj) hg hd hn hk
theorem zs6 {t u:TypeId} {x y:Operand} {k:IntKind} {p q:Int} (hk:WS Tryz.prog n ops l K ((d,.int k (p+q))::env) h) (ho:o.op = .binOp .add t x y u:=by exact rfl) (hx:env.ev? x=some (.int k p):=by exact rfl) (hy:env.ev? y=some (.int k q):=by exact rfl) (hr:inK k (p+q):=by exact in_i64 (by omega) (by omega)) (hg:gd ops env o=some true:=by exact rfl) (hd:o.dst=some d:=by exact rfl) (hn:Nat.blt d n=true:=by exact rfl) :
  WS Tryz.prog n ops (o::l) K env h:=WS.val (ov_add ho hx hy hr) hg hd hn hk
theorem zs7 {t u:TypeId} {x y:Operand} {k:IntKind} {p q:Int} (hk:WS Tryz.prog n ops l K ((d,.int k (p-q))::env) h) (ho:o.op = .binOp .sub t x y u:=by exact rfl) (hx:env.ev? x=some (.int k p):=by exact rfl) (hy:env.ev? y=some (.int k q):=by exact rfl) (hr:inK k (p-q):=by exact in_i64 (by omega) (by omega)) (hg:gd ops env o=some true:=by exact rfl) (hd:o.dst=some d:=by exact rfl) (hn:Nat.blt d n=true:=by exact rfl) :
  WS Tryz.prog n ops (o::l) K env h:=WS.val (ov_sub ho hx hy hr) hg hd hn hk
theorem zs8 {t u:TypeId} {x y:Operand} {k:IntKind} {p q:Int} (hk:WS Tryz.prog n ops l K ((d,.int k (p*q))::env) h) (ho:o.op = .binOp .mul t x y u:=by exact rfl) (hx:env.ev? x=some (.int k p):=by exact rfl) (hy:env.ev? y=some (.int k q):=by exact rfl) (hr:inK k (p*q):=by exact in_i64 (by omega) (by omega)) (hg:gd ops env o=some true:=by exact rfl) (hd:o.dst=some d:=by exact rfl) (hn:Nat.blt d n=true:=by exact rfl) :
  WS Tryz.prog n ops (o::l) K env h:=WS.val (ov_mul ho hx hy hr) hg hd hn hk
theorem zs9 {s t:TypeId} {x:Operand} {k k':IntKind} {q:Int} {i:TI} {sz by_:Nat} {z:Value} (hk:WS Tryz.prog n ops l K ((d,.int k' q)::env) h) (ho:o.op = .convert s t x:=by exact rfl) (hx:env.ev? x=some (.int k q):=by exact rfl) (hs:tab.get? s=some i:=by exact rfl) (ht:tab.get? t=some ⟨sz,by_,z,.int k'⟩:=by exact rfl) (hr:inK k' q:=by exact in_i64 (by omega) (by omega)) (hg:gd ops env o=some true:=by exact rfl) (hd:o.dst=some d:=by exact rfl) (hn:Nat.blt d n=true:=by exact rfl) :
  WS Tryz.prog n ops (o::l) K env h:=WS.val (ov_conv tab_ok ho hx hs ht hr) hg hd hn hk
theorem zs10 {t u:TypeId} {x y:Operand} {p q:List UInt8} (hk:WS Tryz.prog n ops l K ((d,.string (str (p++q)))::env) h) (ho:o.op = .binOp .add t x y u:=by exact rfl) (hx:env.ev? x=some (.string (str p)):=by exact rfl) (hy:env.ev? y=some (.string (str q)):=by exact rfl) (hr:p.length+q.length≤9223372036854775807:=by first | omega | (simp<;>omega)) (hg:gd ops env o=some true:=by exact rfl) (hd:o.dst=some d:=by exact rfl) (hn:Nat.blt d n=true:=by exact rfl) :
  WS Tryz.prog n ops (o::l) K env h:=WS.val (ov_sadd ho hx hy hr) hg hd hn hk
theorem zs11 {t:TypeId} {x lo hi:Operand} {c:List UInt8} {k k':IntKind} {p q:Int} {i j:Nat} {sz by_:Nat} {z:Value} (hk:WS Tryz.prog n ops l K ((d,.string (str ((c.take j).drop i)))::env) h) (ho:o.op = .slice t x (some lo) (some hi) none:=by exact rfl) (hx:env.ev? x=some (.string (str c)):=by exact rfl) (hlo:env.ev? lo=some (.int k p):=by exact rfl) (hhi:env.ev? hi=some (.int k' q):=by exact rfl) (ht:tab.get? t=some ⟨sz,by_,z,.string⟩:=by exact rfl) (hp:natOf p=some i:=by exact rfl) (hq:natOf q=some j:=by exact rfl) (hij:i≤j:=by omega) (hj:j≤c.length:=by omega) (hg:gd ops env o=some true:=by exact rfl) (hd:o.dst=some d:=by exact rfl) (hn:Nat.blt d n=true:=by exact rfl) :
  WS Tryz.prog n ops (o::l) K env h:=WS.val (ov_sslice tab_ok ho hx hlo hhi ht hp hq hij hj) hg hd hn hk
theorem zs12 {t:TypeId} {x lo:Operand} {c:List UInt8} {k:IntKind} {p:Int} {i:Nat} {sz by_:Nat} {z:Value} (hk:WS Tryz.prog n ops l K ((d,.string (str (c.drop i)))::env) h) (ho:o.op = .slice t x (some lo) none none:=by exact rfl) (hx:env.ev? x=some (.string (str c)):=by exact rfl) (hlo:env.ev? lo=some (.int k p):=by exact rfl) (ht:tab.get? t=some ⟨sz,by_,z,.string⟩:=by exact rfl) (hp:natOf p=some i:=by exact rfl) (hi:i≤c.length:=by omega) (hg:gd ops env o=some true:=by exact rfl) (hd:o.dst=some d:=by exact rfl) (hn:Nat.blt d n=true:=by exact rfl) :
  WS Tryz.prog n ops (o::l) K env h:=WS.val (ov_sslice_lo tab_ok ho hx hlo ht hp hi) hg hd hn hk
theorem zs0 (hk:WS Tryz.prog n ops l K ((d,undef)::env) h) (hg:gd ops env o=some false:=by exact rfl) (hd:o.dst=some d:=by exact rfl) (hn:Nat.blt d n=true:=by exact rfl) :
  WS Tryz.prog n ops (o::l) K env h:=WS.pass hg hd hn hk
end
structure Hid (G:Prop):Prop where
 out:G
theorem zgo {G' G:Prop} (hk:G') (hs:Hid G'→G:=by (intro hk';repeat (first | refine Runs.ctl rfl ?_ | refine Runs.region ?_ | with_reducible refine WO.nil ?_ | refine zo1 ?_ | refine zo2 ?_ | refine zo3 ?_ | refine zo4 ?_ | refine zo5 ?_ | refine zo6 ?_ | refine zo7 ?_ | refine zo8 ?_ | refine zo9 ?_ | refine zo10 ?_ | refine zo11 ?_ | refine zo12 ?_ | refine zo0 ?_));exact hk'.out):G:=hs ⟨hk⟩
theorem zws {G' G:Prop} (hk:G') (hs:Hid G'→G:=by (intro hk';repeat (first | with_reducible refine WS.nil ?_ | refine zs1 ?_ | refine zs2 ?_ | refine zs3 ?_ | refine zs4 ?_ | refine zs5 ?_ | refine zs6 ?_ | refine zs7 ?_ | refine zs8 ?_ | refine zs9 ?_ | refine zs10 ?_ | refine zs11 ?_ | refine zs12 ?_ | refine zs0 ?_));exact hk'.out):G:=hs ⟨hk⟩
section
variable {n d fuel:Nat} {ops:Array Oper} {SH:Heap→Prop} {F:Nat→Bool} {listed:Array Bool} {K:Env→Heap→Prop} {o:Oper} {env:Env} {h:Heap}
theorem zp (i:Nat) {v:Value} (hS:SH h) (hk:WF Tryz.prog n ops SH F fuel (listed.setIfInBounds i true) K ((d,v)::env) h) (hi:ops[i]? = some o:=by exact rfl) (hv:pv tab env o.op=some v:=by exact rfl) (hg:gd ops env o=some true:=by exact rfl) (hd:o.dst=some d:=by exact rfl) (hn:Nat.blt d n=true:=by exact rfl) (hc:(Region.noSelect ops&&Region.free .any ops listed i&&(Region.ready .any ops listed).contains i&&waitsB ops F i)=true:=by kernel_rfl) :
  WF Tryz.prog n ops SH F (fuel+1) listed K env h:=WF.take i hi (fun _ _=>ov_pv tab_ok hv) hS hg hd hn hc hk
theorem zq (i:Nat) (hS:SH h) (hk:WF Tryz.prog n ops SH F fuel (listed.setIfInBounds i true) K ((d,undef)::env) h) (hi:ops[i]? = some o:=by exact rfl) (hg:gd ops env o=some false:=by exact rfl) (hd:o.dst=some d:=by exact rfl) (hn:Nat.blt d n=true:=by exact rfl) (hc:(Region.noSelect ops&&Region.free .any ops listed i&&(Region.ready .any ops listed).contains i&&waitsB ops F i)=true:=by kernel_rfl) :
  WF Tryz.prog n ops SH F (fuel+1) listed K env h:=WF.take_pass i hi hS hg hd hn hc hk
theorem zl (i:Nat) {t:TypeId} {x:Operand} {b p:Nat} {v:Value} {ti:TI} (hv:∀ h',SH h'→cellAt h' b p=some v) (hS:SH h) (hk:WF Tryz.prog n ops SH F fuel (listed.setIfInBounds i true) K ((d,v)::env) h) (hi:ops[i]? = some o:=by exact rfl) (ho:o.op = .load t x:=by exact rfl) (hx:env.ev? x=some (.pointer (some ⟨b,p,none⟩)):=by exact rfl) (ht:tab.get? t=some ti:=by exact rfl) (hag:ti.kind.agg=false:=by exact rfl) (hg:gd ops env o=some true:=by exact rfl) (hd:o.dst=some d:=by exact rfl) (hn:Nat.blt d n=true:=by exact rfl) (hc:(Region.noSelect ops&&Region.free .any ops listed i&&(Region.ready .any ops listed).contains i&&waitsB ops F i)=true:=by kernel_rfl) :
  WF Tryz.prog n ops SH F (fuel+1) listed K env h:=WF.take i hi (fun h' hs=>ov_load tab_ok ho hx ht hag (hv h' hs)) hS hg hd hn hc hk
theorem zL (i:Nat) {t:TypeId} {x:Operand} {b p:Nat} {c:List Value} {ti:TI} (hv:∀ h',SH h'→Cells h' b p c) (hS:SH h) (hk:WF Tryz.prog n ops SH F fuel (listed.setIfInBounds i true) K ((d,.agg c.toArray)::env) h) (hi:ops[i]? = some o:=by exact rfl) (ho:o.op = .load t x:=by exact rfl) (hx:env.ev? x=some (.pointer (some ⟨b,p,none⟩)):=by exact rfl) (ht:tab.get? t=some ti:=by exact rfl) (hag:ti.kind.agg=true:=by exact rfl) (hl:c.length=ti.size:=by exact rfl) (hg:gd ops env o=some true:=by exact rfl) (hd:o.dst=some d:=by exact rfl) (hn:Nat.blt d n=true:=by exact rfl) (hc:(Region.noSelect ops&&Region.free .any ops listed i&&(Region.ready .any ops listed).contains i&&waitsB ops F i)=true:=by kernel_rfl) :
  WF Tryz.prog n ops SH F (fuel+1) listed K env h:=WF.take i hi (fun h' hs=>ov_loads tab_ok ho hx ht hag hl (hv h' hs)) hS hg hd hn hc hk
theorem zi (i:Nat) {t e:TypeId} {x y:Operand} {b p len cap j sz by_ esz eby:Nat} {k:IntKind} {q:Int} {z ez:Value} {ek:TK} (hj:j<len) (hS:SH h) (hk:WF Tryz.prog n ops SH F fuel (listed.setIfInBounds i true) K ((d,.pointer (some ⟨b,p+j*esz,none⟩))::env) h) (hi:ops[i]? = some o:=by exact rfl) (ho:o.op = .indexAddr t x y:=by exact rfl) (hx:env.ev? x=some (.slice (some ⟨b,p,none⟩) len cap):=by exact rfl) (hy:env.ev? y=some (.int k q):=by exact rfl) (ht:tab.get? t=some ⟨sz,by_,z,.slice e⟩:=by exact rfl) (he:tab.get? e=some ⟨esz,eby,ez,ek⟩:=by exact rfl) (hq:natOf q=some j:=by exact rfl) (hg:gd ops env o=some true:=by exact rfl) (hd:o.dst=some d:=by exact rfl) (hn:Nat.blt d n=true:=by exact rfl) (hc:(Region.noSelect ops&&Region.free .any ops listed i&&(Region.ready .any ops listed).contains i&&waitsB ops F i)=true:=by kernel_rfl) :
  WF Tryz.prog n ops SH F (fuel+1) listed K env h:=WF.take i hi (fun _ _=>ov_indexAddr tab_ok ho hx hy ht he hq hj) hS hg hd hn hc hk
theorem zx (i:Nat) {v:Value} (hS:SH h) (hk:WF Tryz.prog n ops SH F fuel (listed.setIfInBounds i true) K ((d,v)::env) h) (hr:Region.ready .any ops listed=[i]:=by kernel_rfl) (hi:ops[i]? = some o:=by exact rfl) (hv:pv tab env o.op=some v:=by exact rfl) (hg:gd ops env o=some true:=by exact rfl) (hd:o.dst=some d:=by exact rfl) (hn:Nat.blt d n=true:=by exact rfl) :
  WF Tryz.prog n ops SH F (fuel+1) listed K env h:=WF.ex i hr hi hg hd hn ((ov_pv tab_ok hv).ex ⟨.inr hS,hk⟩)
end
section
variable {n d d₂ N esz eby sz by_:Nat} {ops:Array Oper} {l:List Oper} {K:Env→Heap→Prop} {o o₂:Oper} {env:Env} {h:Heap} {t e:TypeId} {x s:Operand} {u v z ez:Value} {vs xs zs c':List Value} {ek tk:TK}
theorem zh (h1:One vs) (hown:Own h e esz v N xs)
  (hk:∀ v' h',Own h' e esz v' (N+1) (xs++vs)→Fr (fun k=>v.ownBlock=some k) h h'→Moved h v v'→WO Tryz.prog n ops l K ((d₂,v')::(d,.slice (some ⟨h.size,0,none⟩) 1 1)::env) h')
  (ho:o.op = .buildSlice t 1 #[(0,x)]:=by exact rfl) (hg:gd ops env o=some true:=by exact rfl) (hd:o.dst=some d:=by exact rfl) (hn:Nat.blt d n=true:=by exact rfl)
  (ho₂:o₂.op = .call { callee:=.builtin .append,args:=#[s,.tmp d],argTypes:=#[t,t] }:=by exact rfl) (hg₂:o₂.guard=none:=by exact rfl) (hd₂:o₂.dst=some d₂:=by exact rfl) (hn₂:Nat.blt d₂ n=true:=by exact rfl)
  (ht:tab.get? t=some ⟨sz,by_,z,.slice e⟩:=by exact rfl) (he:tab.get? e=some ⟨esz,eby,ez,ek⟩:=by exact rfl) (hpos:Nat.blt 0 esz=true:=by exact rfl) (hle:Nat.ble esz 16777216=true:=by exact rfl) (hz:ez.cells.size=esz:=by exact rfl)
  (hx:env.ev? x=some u:=by exact rfl) (hvs:oneList u=some vs:=by exact rfl) (hl:Nat.beq vs.length esz=true:=by exact rfl) (hs:env.ev? s=some v:=by exact rfl) (hsd:s ≠ .tmp d:=by simp) (hb:(N+1)*(eby+1)≤140737488355328:=by omega) :
  WO Tryz.prog n ops (o::o₂::l) K env h:=WO.push tab_ok ho hg hd hn ho₂ hg₂ hd₂ hn₂ ht he hpos hle hz hx hvs hl hs hsd h1 hown hb hk
theorem zv {y:Operand} (h1:One vs) (hk:∀ h1,Blk h1 h.size c' t→Ext h h1→h1.size=h.size+1→WO Tryz.prog n ops l K ((d,.pointer (some ⟨h.size,0,none⟩))::env) h1)
  (ho:o.op = .alloc t:=by exact rfl) (hg:gd ops env o=some true:=by exact rfl) (hd:o.dst=some d:=by exact rfl) (hn:Nat.blt d n=true:=by exact rfl) (ht:tab.get? t=some ⟨sz,by_,z,tk⟩:=by exact rfl) (hz:oneList z=some zs:=by exact rfl)
  (ho₂:o₂.op = .store t (.tmp d) y:=by exact rfl) (hg₂:o₂.guard=none:=by exact rfl) (hd₂:o₂.dst=none:=by exact rfl) (hy:Env.ev? ((d,.pointer (some ⟨h.size,0,none⟩))::env) y=some v:=by exact rfl) (hv:oneList v=some vs:=by exact rfl) (hl:Nat.beq vs.length sz=true:=by exact rfl) (hs:setO zs 0 vs=some c':=by exact rfl) :
  WO Tryz.prog n ops (o::o₂::l) K env h:=WO.var tab_ok ho hg hd hn ht hz ho₂ hg₂ hd₂ hy hv hl h1 hs hk
end
section
variable {n d b p sz by_:Nat} {ops:Array Oper} {l:List Oper} {K:Env→Heap→Prop} {o:Oper} {env:Env} {h:Heap} {t e:TypeId} {x y:Operand} {v z:Value} {vs c c':List Value} {tk:TK}
theorem zt (h1:One vs) (hblk:Blk h b c e) (hk:∀ h1,Blk h1 b c' e→Fr (fun k=>k=b) h h1→h1.size=h.size→WO Tryz.prog n ops l K env h1) (ho:o.op = .store t x y:=by exact rfl) (hg:gd ops env o=some true:=by exact rfl) (hd:o.dst=none:=by exact rfl) (hx:env.ev? x=some (.pointer (some ⟨b,p,none⟩)):=by exact rfl) (hy:env.ev? y=some v:=by exact rfl) (ht:tab.get? t=some ⟨sz,by_,z,tk⟩:=by exact rfl) (hv:oneList v=some vs:=by exact rfl) (hl:Nat.beq vs.length sz=true:=by exact rfl) (hs:setO c p vs=some c':=by exact rfl) :
  WO Tryz.prog n ops (o::l) K env h:=WO.put tab_ok ho hg hd hx hy ht hv hl h1 hblk hs hk
theorem zb (hk:∀ h1,Blk h1 h.size vs t→Ext h h1→h1.size=h.size+1→WO Tryz.prog n ops l K ((d,.pointer (some ⟨h.size,0,none⟩))::env) h1) (ho:o.op = .box t x:=by exact rfl) (hg:gd ops env o=some true:=by exact rfl) (hd:o.dst=some d:=by exact rfl) (hn:Nat.blt d n=true:=by exact rfl) (hx:env.ev? x=some v:=by exact rfl) (hz:oneList v=some vs:=by exact rfl) :
  WO Tryz.prog n ops (o::l) K env h:=WO.box ho hg hd hn hx hz hk
end
section
variable {n fuel:Nat} {ops:Array Oper} {SH:Heap→Prop} {F:Nat→Bool} {listed:Array Bool} {K:Env→Heap→Prop} {env:Env} {h:Heap}
theorem zd (hk:K env h) (hr:Region.ready .any ops listed=[]:=by kernel_rfl):WF Tryz.prog n ops SH F fuel listed K env h:=WF.done hr hk
end
end Go.Proofs.YtlaffgagmncgjaaGreatDoor
