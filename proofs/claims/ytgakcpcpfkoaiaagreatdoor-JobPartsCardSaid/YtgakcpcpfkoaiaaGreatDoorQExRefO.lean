/-
  A text of this claim: ExRefO.
-/
import Derived.Test.YtgakcpcpfkoaiaaGreatDoorQ1
import Derived.Test.YtgakcpcpfkoaiaaGreatDoorQExRefW
import Derived.Test.YtgakcpcpfkoaiaaGreatDoorQ5
import Derived.Test.YtgakcpcpfkoaiaaGreatDoorQVaRef
set_option maxHeartbeats 4000000
set_option maxRecDepth 100000
namespace Go.Proofs.YtgakcpcpfkoaiaaGreatDoor.Ex
open Go.ChangeShapes Go.WideShapes Go.ChangeAt Go.RowKit Ov Va
def onv (n:Nat):Option (List No)→Value
 | some r=>.int .i64 ((n - r.length:Nat):Int)
 | none=>.int .i64 (-1)
theorem one_out {l:List No} {A:Option Addr} {c k wi:Nat} {w:World} (d:Nat) (hk:¬ k<l.length):Calls Tryz.prog 58 #[.slice A l.length c,.int .i64 (k:Int),.int .i64 (wi:Int)] w (Gives (onv l.length (ex d (l.drop k))) w):=by
 have HE:Hid (onv l.length (ex d (l.drop k))=.int .i64 (-1)):=by
  show _=_
  rw [List.drop_of_length_le (by omega),ex_nil];rfl
 go_enter Tryz.func58,Tryz.ntmps58
 go_wp2_with fail
 go_ret
 exact ⟨by rw [HE.out];rfl,Below.refl _ _⟩
theorem one_deep {l:List No} {A:Option Addr} {c k:Nat} {w:World} (hk:k<l.length):Calls Tryz.prog 58 #[.slice A l.length c,.int .i64 (k:Int),.int .i64 25] w (Gives (onv l.length (ex 0 (l.drop k))) w):=by
 have HE:Hid (onv l.length (ex 0 (l.drop k))=.int .i64 (-1)):=rfl
 go_enter Tryz.func58,Tryz.ntmps58
 go_wp2_with fail
 go_ret
 exact ⟨by rw [HE.out];rfl,Below.refl _ _⟩
theorem one_val_yes {l:List No} {B O c k wi:Nat} {w:World} {vk vn vx vy:Int} {vs:ByteArray} (hlt:l.length≤4294967296) (hv:rt ⟨vk,vn,vs.data.toList,vx,vy⟩=true) (hk:k<l.length) (hwi:wi≤24)
 (e0:w.cell? ⟨B,O+k * 6,none⟩=some (.int .i64 0)) (e1:w.cell? ⟨B,O+k * 6+1,none⟩=some (.int .i64 vk)) (e2:w.cell? ⟨B,O+k * 6+2,none⟩=some (.int .i64 vn)) (e3:w.cell? ⟨B,O+k * 6+3,none⟩=some (.string vs)) (e4:w.cell? ⟨B,O+k * 6+4,none⟩=some (.int .i64 vx)) (e5:w.cell? ⟨B,O+k * 6+5,none⟩=some (.int .i64 vy)) :
 Calls Tryz.prog 58 #[.slice (some ⟨B,O,none⟩) l.length c,.int .i64 (k:Int),.int .i64 (wi:Int)] w (Gives (.int .i64 ((k+1:Nat):Int)) w):=by
 have hd1:decide (l.length≤k)=false:=decide_eq_false (by omega)
 have hd2:decide ((24:Int)<(wi:Int))=false:=decide_eq_false (by omega)
 have HV:=qq (rright_val vk vn vx vy vs);rw [hv] at HV;clear hv
 go_enter Tryz.func58,Tryz.ntmps58
 go_wp2_with fail
 have kb:=box1 w (.cells #[.int .i64 0,.int .i64 vk,.int .i64 vn,.string vs,.int .i64 vx,.int .i64 vy] 46)
 have D:=Blk.made w 46 [.int .i64 0,.int .i64 vk,.int .i64 vn,.string vs,.int .i64 vx,.int .i64 vy] rfl
 change Blk (w.alloc (.cells #[.int .i64 0,.int .i64 vk,.int .i64 vn,.string vs,.int .i64 vx,.int .i64 vy] 46)) w.heap.size _ at D
 generalize w.alloc (.cells #[.int .i64 0,.int .i64 vk,.int .i64 vn,.string vs,.int .i64 vx,.int .i64 vy] 46)=w1 at *
 refine (HV.out _).mono ?_
 rintro e w2 ⟨rfl,hb⟩
 have HB:=qq (Below.next kb hb)
 have D2:=D.next hb
 have c0:=D2.c 0 _ rfl;have c1:=D2.c 1 _ rfl;have c2:=D2.c 2 _ rfl
 clear hb kb D HV D2 e0 e1 e2 e3 e4 e5
 go_wp2_with fail
 go_ret
 exact ⟨ret_int (by go_num),HB.out⟩
theorem one_val_no {l:List No} {B O c k wi:Nat} {w:World} {vk vn vx vy:Int} {vs:ByteArray} (hv:rt ⟨vk,vn,vs.data.toList,vx,vy⟩=false) (hk:k<l.length) (hwi:wi≤24)
 (e0:w.cell? ⟨B,O+k * 6,none⟩=some (.int .i64 0)) (e1:w.cell? ⟨B,O+k * 6+1,none⟩=some (.int .i64 vk)) (e2:w.cell? ⟨B,O+k * 6+2,none⟩=some (.int .i64 vn)) (e3:w.cell? ⟨B,O+k * 6+3,none⟩=some (.string vs)) (e4:w.cell? ⟨B,O+k * 6+4,none⟩=some (.int .i64 vx)) (e5:w.cell? ⟨B,O+k * 6+5,none⟩=some (.int .i64 vy)) :
 Calls Tryz.prog 58 #[.slice (some ⟨B,O,none⟩) l.length c,.int .i64 (k:Int),.int .i64 (wi:Int)] w (Gives (.int .i64 (-1)) w):=by
 have hd1:decide (l.length≤k)=false:=decide_eq_false (by omega)
 have hd2:decide ((24:Int)<(wi:Int))=false:=decide_eq_false (by omega)
 have HV:=qq (rright_val vk vn vx vy vs);rw [hv] at HV;clear hv
 go_enter Tryz.func58,Tryz.ntmps58
 go_wp2_with fail
 have kb:=box1 w (.cells #[.int .i64 0,.int .i64 vk,.int .i64 vn,.string vs,.int .i64 vx,.int .i64 vy] 46)
 have D:=Blk.made w 46 [.int .i64 0,.int .i64 vk,.int .i64 vn,.string vs,.int .i64 vx,.int .i64 vy] rfl
 change Blk (w.alloc (.cells #[.int .i64 0,.int .i64 vk,.int .i64 vn,.string vs,.int .i64 vx,.int .i64 vy] 46)) w.heap.size _ at D
 generalize w.alloc (.cells #[.int .i64 0,.int .i64 vk,.int .i64 vn,.string vs,.int .i64 vx,.int .i64 vy] 46)=w1 at *
 refine (HV.out _).mono ?_
 rintro e w2 ⟨rfl,hb⟩
 have HB:=qq (Below.next kb hb)
 have D2:=D.next hb
 have c0:=D2.c 0 _ rfl;have c1:=D2.c 1 _ rfl;have c2:=D2.c 2 _ rfl
 clear hb kb D HV D2 e0 e1 e2 e3 e4 e5
 go_wp2_with fail
 refine (word_out (o:=0) (by decide) _).mono ?_
 rintro e w3 ⟨rfl,hb⟩
 have HB3:=qq (Below.next HB.out hb)
 clear hb
 go_wp2_with fail
 go_ret
 exact ⟨rfl,HB3.out⟩
theorem one_name_bad {l:List No} {B O c k wi:Nat} {w:World} {vk vn vx vy:Int} {vs:ByteArray} (hv:rt ⟨vk,vn,vs.data.toList,vx,vy⟩=false) (hk:k<l.length) (hwi:wi≤24)
 (e0:w.cell? ⟨B,O+k * 6,none⟩=some (.int .i64 1)) (e1:w.cell? ⟨B,O+k * 6+1,none⟩=some (.int .i64 vk)) (e2:w.cell? ⟨B,O+k * 6+2,none⟩=some (.int .i64 vn)) (e3:w.cell? ⟨B,O+k * 6+3,none⟩=some (.string vs)) (e4:w.cell? ⟨B,O+k * 6+4,none⟩=some (.int .i64 vx)) (e5:w.cell? ⟨B,O+k * 6+5,none⟩=some (.int .i64 vy)) :
 Calls Tryz.prog 58 #[.slice (some ⟨B,O,none⟩) l.length c,.int .i64 (k:Int),.int .i64 (wi:Int)] w (Gives (.int .i64 (-1)) w):=by
 have hd1:decide (l.length≤k)=false:=decide_eq_false (by omega)
 have hd2:decide ((24:Int)<(wi:Int))=false:=decide_eq_false (by omega)
 have HV:=qq (rright_val vk vn vx vy vs);rw [hv] at HV;clear hv
 go_enter Tryz.func58,Tryz.ntmps58
 go_wp2_with fail
 have kb:=box1 w (.cells #[.int .i64 1,.int .i64 vk,.int .i64 vn,.string vs,.int .i64 vx,.int .i64 vy] 46)
 have D:=Blk.made w 46 [.int .i64 1,.int .i64 vk,.int .i64 vn,.string vs,.int .i64 vx,.int .i64 vy] rfl
 change Blk (w.alloc (.cells #[.int .i64 1,.int .i64 vk,.int .i64 vn,.string vs,.int .i64 vx,.int .i64 vy] 46)) w.heap.size _ at D
 generalize w.alloc (.cells #[.int .i64 1,.int .i64 vk,.int .i64 vn,.string vs,.int .i64 vx,.int .i64 vy] 46)=w1 at *
 refine (HV.out _).mono ?_
 rintro e w2 ⟨rfl,hb⟩
 have HB:=qq (Below.next kb hb)
 have D2:=D.next hb
 have c0:=D2.c 0 _ rfl;have c1:=D2.c 1 _ rfl;have c2:=D2.c 2 _ rfl
 clear hb kb D HV D2 e0 e1 e2 e3 e4 e5
 go_wp2_with fail
 refine (word_out (o:=1) (by decide) _).mono ?_
 rintro e w3 ⟨rfl,hb⟩
 have HB3:=qq (Below.next HB.out hb)
 clear hb
 go_wp2_with fail
 go_ret
 exact ⟨rfl,HB3.out⟩
theorem one_name_kind {l:List No} {B O c k wi:Nat} {w:World} {vk vn vx vy:Int} {vs:ByteArray} (hv:rt ⟨vk,vn,vs.data.toList,vx,vy⟩=true) (h1:(vk == 0)=false) (hk:k<l.length) (hwi:wi≤24)
 (e0:w.cell? ⟨B,O+k * 6,none⟩=some (.int .i64 1)) (e1:w.cell? ⟨B,O+k * 6+1,none⟩=some (.int .i64 vk)) (e2:w.cell? ⟨B,O+k * 6+2,none⟩=some (.int .i64 vn)) (e3:w.cell? ⟨B,O+k * 6+3,none⟩=some (.string vs)) (e4:w.cell? ⟨B,O+k * 6+4,none⟩=some (.int .i64 vx)) (e5:w.cell? ⟨B,O+k * 6+5,none⟩=some (.int .i64 vy)) :
 Calls Tryz.prog 58 #[.slice (some ⟨B,O,none⟩) l.length c,.int .i64 (k:Int),.int .i64 (wi:Int)] w (Gives (.int .i64 (-1)) w):=by
 have hd1:decide (l.length≤k)=false:=decide_eq_false (by omega)
 have hd2:decide ((24:Int)<(wi:Int))=false:=decide_eq_false (by omega)
 have HV:=qq (rright_val vk vn vx vy vs);rw [hv] at HV;clear hv
 go_enter Tryz.func58,Tryz.ntmps58
 go_wp2_with fail
 have kb:=box1 w (.cells #[.int .i64 1,.int .i64 vk,.int .i64 vn,.string vs,.int .i64 vx,.int .i64 vy] 46)
 have D:=Blk.made w 46 [.int .i64 1,.int .i64 vk,.int .i64 vn,.string vs,.int .i64 vx,.int .i64 vy] rfl
 change Blk (w.alloc (.cells #[.int .i64 1,.int .i64 vk,.int .i64 vn,.string vs,.int .i64 vx,.int .i64 vy] 46)) w.heap.size _ at D
 generalize w.alloc (.cells #[.int .i64 1,.int .i64 vk,.int .i64 vn,.string vs,.int .i64 vx,.int .i64 vy] 46)=w1 at *
 refine (HV.out _).mono ?_
 rintro e w2 ⟨rfl,hb⟩
 have HB:=qq (Below.next kb hb)
 have D2:=D.next hb
 have c0:=D2.c 0 _ rfl;have c1:=D2.c 1 _ rfl;have c2:=D2.c 2 _ rfl
 clear hb kb D HV D2 e0 e1 e2 e3 e4 e5
 go_wp2_with fail
 refine (word_out (o:=1) (by decide) _).mono ?_
 rintro e w3 ⟨rfl,hb⟩
 have HB3:=qq (Below.next HB.out hb)
 clear hb
 go_wp2_with fail
 go_ret
 exact ⟨rfl,HB3.out⟩
theorem one_name_low {l:List No} {B O c k wi:Nat} {w:World} {vn vx vy:Int} {vs:ByteArray} (hv:rt ⟨0,vn,vs.data.toList,vx,vy⟩=true) (h2:vn<0) (hk:k<l.length) (hwi:wi≤24)
 (e0:w.cell? ⟨B,O+k * 6,none⟩=some (.int .i64 1)) (e1:w.cell? ⟨B,O+k * 6+1,none⟩=some (.int .i64 0)) (e2:w.cell? ⟨B,O+k * 6+2,none⟩=some (.int .i64 vn)) (e3:w.cell? ⟨B,O+k * 6+3,none⟩=some (.string vs)) (e4:w.cell? ⟨B,O+k * 6+4,none⟩=some (.int .i64 vx)) (e5:w.cell? ⟨B,O+k * 6+5,none⟩=some (.int .i64 vy)) :
 Calls Tryz.prog 58 #[.slice (some ⟨B,O,none⟩) l.length c,.int .i64 (k:Int),.int .i64 (wi:Int)] w (Gives (.int .i64 (-1)) w):=by
 have hd1:decide (l.length≤k)=false:=decide_eq_false (by omega)
 have hd2:decide ((24:Int)<(wi:Int))=false:=decide_eq_false (by omega)
 have HV:=qq (rright_val 0 vn vx vy vs);rw [hv] at HV;clear hv
 go_enter Tryz.func58,Tryz.ntmps58
 go_wp2_with fail
 have kb:=box1 w (.cells #[.int .i64 1,.int .i64 0,.int .i64 vn,.string vs,.int .i64 vx,.int .i64 vy] 46)
 have D:=Blk.made w 46 [.int .i64 1,.int .i64 0,.int .i64 vn,.string vs,.int .i64 vx,.int .i64 vy] rfl
 change Blk (w.alloc (.cells #[.int .i64 1,.int .i64 0,.int .i64 vn,.string vs,.int .i64 vx,.int .i64 vy] 46)) w.heap.size _ at D
 generalize w.alloc (.cells #[.int .i64 1,.int .i64 0,.int .i64 vn,.string vs,.int .i64 vx,.int .i64 vy] 46)=w1 at *
 refine (HV.out _).mono ?_
 rintro e w2 ⟨rfl,hb⟩
 have HB:=qq (Below.next kb hb)
 have D2:=D.next hb
 have c0:=D2.c 0 _ rfl;have c1:=D2.c 1 _ rfl;have c2:=D2.c 2 _ rfl
 clear hb kb D HV D2 e0 e1 e2 e3 e4 e5
 go_wp2_with fail
 refine (word_out (o:=1) (by decide) _).mono ?_
 rintro e w3 ⟨rfl,hb⟩
 have HB3:=qq (Below.next HB.out hb)
 clear hb
 go_wp2_with fail
 go_ret
 exact ⟨rfl,HB3.out⟩
theorem one_name_high {l:List No} {B O c k wi:Nat} {w:World} {vn vx vy:Int} {vs:ByteArray} (hv:rt ⟨0,vn,vs.data.toList,vx,vy⟩=true) (h2:0≤vn) (h3:4<vn) (hk:k<l.length) (hwi:wi≤24)
 (e0:w.cell? ⟨B,O+k * 6,none⟩=some (.int .i64 1)) (e1:w.cell? ⟨B,O+k * 6+1,none⟩=some (.int .i64 0)) (e2:w.cell? ⟨B,O+k * 6+2,none⟩=some (.int .i64 vn)) (e3:w.cell? ⟨B,O+k * 6+3,none⟩=some (.string vs)) (e4:w.cell? ⟨B,O+k * 6+4,none⟩=some (.int .i64 vx)) (e5:w.cell? ⟨B,O+k * 6+5,none⟩=some (.int .i64 vy)) :
 Calls Tryz.prog 58 #[.slice (some ⟨B,O,none⟩) l.length c,.int .i64 (k:Int),.int .i64 (wi:Int)] w (Gives (.int .i64 (-1)) w):=by
 have hd1:decide (l.length≤k)=false:=decide_eq_false (by omega)
 have hd2:decide ((24:Int)<(wi:Int))=false:=decide_eq_false (by omega)
 have HV:=qq (rright_val 0 vn vx vy vs);rw [hv] at HV;clear hv
 go_enter Tryz.func58,Tryz.ntmps58
 go_wp2_with fail
 have kb:=box1 w (.cells #[.int .i64 1,.int .i64 0,.int .i64 vn,.string vs,.int .i64 vx,.int .i64 vy] 46)
 have D:=Blk.made w 46 [.int .i64 1,.int .i64 0,.int .i64 vn,.string vs,.int .i64 vx,.int .i64 vy] rfl
 change Blk (w.alloc (.cells #[.int .i64 1,.int .i64 0,.int .i64 vn,.string vs,.int .i64 vx,.int .i64 vy] 46)) w.heap.size _ at D
 generalize w.alloc (.cells #[.int .i64 1,.int .i64 0,.int .i64 vn,.string vs,.int .i64 vx,.int .i64 vy] 46)=w1 at *
 refine (HV.out _).mono ?_
 rintro e w2 ⟨rfl,hb⟩
 have HB:=qq (Below.next kb hb)
 have D2:=D.next hb
 have c0:=D2.c 0 _ rfl;have c1:=D2.c 1 _ rfl;have c2:=D2.c 2 _ rfl
 clear hb kb D HV D2 e0 e1 e2 e3 e4 e5
 go_wp2_with fail
 refine (word_out (o:=1) (by decide) _).mono ?_
 rintro e w3 ⟨rfl,hb⟩
 have HB3:=qq (Below.next HB.out hb)
 clear hb
 go_wp2_with fail
 go_ret
 exact ⟨rfl,HB3.out⟩
theorem one_name_yes {l:List No} {B O c k wi:Nat} {w:World} {vn vx vy:Int} {vs:ByteArray} (hlt:l.length≤4294967296) (hv:rt ⟨0,vn,vs.data.toList,vx,vy⟩=true) (h2:0≤vn) (h3:vn≤4) (hk:k<l.length) (hwi:wi≤24)
 (e0:w.cell? ⟨B,O+k * 6,none⟩=some (.int .i64 1)) (e1:w.cell? ⟨B,O+k * 6+1,none⟩=some (.int .i64 0)) (e2:w.cell? ⟨B,O+k * 6+2,none⟩=some (.int .i64 vn)) (e3:w.cell? ⟨B,O+k * 6+3,none⟩=some (.string vs)) (e4:w.cell? ⟨B,O+k * 6+4,none⟩=some (.int .i64 vx)) (e5:w.cell? ⟨B,O+k * 6+5,none⟩=some (.int .i64 vy)) :
 Calls Tryz.prog 58 #[.slice (some ⟨B,O,none⟩) l.length c,.int .i64 (k:Int),.int .i64 (wi:Int)] w (Gives (.int .i64 ((k+1:Nat):Int)) w):=by
 have hd1:decide (l.length≤k)=false:=decide_eq_false (by omega)
 have hd2:decide ((24:Int)<(wi:Int))=false:=decide_eq_false (by omega)
 have HV:=qq (rright_val 0 vn vx vy vs);rw [hv] at HV;clear hv
 go_enter Tryz.func58,Tryz.ntmps58
 go_wp2_with fail
 have kb:=box1 w (.cells #[.int .i64 1,.int .i64 0,.int .i64 vn,.string vs,.int .i64 vx,.int .i64 vy] 46)
 have D:=Blk.made w 46 [.int .i64 1,.int .i64 0,.int .i64 vn,.string vs,.int .i64 vx,.int .i64 vy] rfl
 change Blk (w.alloc (.cells #[.int .i64 1,.int .i64 0,.int .i64 vn,.string vs,.int .i64 vx,.int .i64 vy] 46)) w.heap.size _ at D
 generalize w.alloc (.cells #[.int .i64 1,.int .i64 0,.int .i64 vn,.string vs,.int .i64 vx,.int .i64 vy] 46)=w1 at *
 refine (HV.out _).mono ?_
 rintro e w2 ⟨rfl,hb⟩
 have HB:=qq (Below.next kb hb)
 have D2:=D.next hb
 have c0:=D2.c 0 _ rfl;have c1:=D2.c 1 _ rfl;have c2:=D2.c 2 _ rfl
 clear hb kb D HV D2 e0 e1 e2 e3 e4 e5
 go_wp2_with fail
 go_ret
 exact ⟨ret_int (by go_num),HB.out⟩
theorem one_out_kind {l:List No} {B O c k wi:Nat} {w:World} {vk vn vx vy:Int} {vs:ByteArray} {o:Int} (ho:o<2∨29<o) (h0:(o == 0)=false) (h1:(o == 1)=false) (hk:k<l.length) (hwi:wi≤24)
 (e0:w.cell? ⟨B,O+k * 6,none⟩=some (.int .i64 o)) (e1:w.cell? ⟨B,O+k * 6+1,none⟩=some (.int .i64 vk)) (e2:w.cell? ⟨B,O+k * 6+2,none⟩=some (.int .i64 vn)) (e3:w.cell? ⟨B,O+k * 6+3,none⟩=some (.string vs)) (e4:w.cell? ⟨B,O+k * 6+4,none⟩=some (.int .i64 vx)) (e5:w.cell? ⟨B,O+k * 6+5,none⟩=some (.int .i64 vy)) :
 Calls Tryz.prog 58 #[.slice (some ⟨B,O,none⟩) l.length c,.int .i64 (k:Int),.int .i64 (wi:Int)] w (Gives (.int .i64 (-1)) w):=by
 have hd1:decide (l.length≤k)=false:=decide_eq_false (by omega)
 have hd2:decide ((24:Int)<(wi:Int))=false:=decide_eq_false (by omega)
 have HO:=qq ho;clear ho
 go_enter Tryz.func58,Tryz.ntmps58
 go_wp2_with fail
 have kb:=box1 w (.cells #[.int .i64 o,.int .i64 vk,.int .i64 vn,.string vs,.int .i64 vx,.int .i64 vy] 46)
 have D:=Blk.made w 46 [.int .i64 o,.int .i64 vk,.int .i64 vn,.string vs,.int .i64 vx,.int .i64 vy] rfl
 change Blk (w.alloc (.cells #[.int .i64 o,.int .i64 vk,.int .i64 vn,.string vs,.int .i64 vx,.int .i64 vy] 46)) w.heap.size _ at D
 generalize w.alloc (.cells #[.int .i64 o,.int .i64 vk,.int .i64 vn,.string vs,.int .i64 vx,.int .i64 vy] 46)=w1 at *
 refine (word_out HO.out _).mono ?_
 rintro e w2 ⟨rfl,hb⟩
 have HB:=qq (Below.next kb hb)
 clear hb kb D e0 e1 e2 e3 e4 e5
 go_wp2_with fail
 go_ret
 exact ⟨rfl,HB.out⟩
theorem one_kind_bad {l:List No} {B O c k wi:Nat} {w:World} {vk vn vx vy:Int} {vs:ByteArray} {o:Int} (ho:2≤o∧o≤29) (hv:ve ⟨vk,vn,vs.data.toList,vx,vy⟩ ⟨0,0,[],0,0⟩=false) (hk:k<l.length) (hwi:wi≤24)
 (e0:w.cell? ⟨B,O+k * 6,none⟩=some (.int .i64 o)) (e1:w.cell? ⟨B,O+k * 6+1,none⟩=some (.int .i64 vk)) (e2:w.cell? ⟨B,O+k * 6+2,none⟩=some (.int .i64 vn)) (e3:w.cell? ⟨B,O+k * 6+3,none⟩=some (.string vs)) (e4:w.cell? ⟨B,O+k * 6+4,none⟩=some (.int .i64 vx)) (e5:w.cell? ⟨B,O+k * 6+5,none⟩=some (.int .i64 vy)) :
 Calls Tryz.prog 58 #[.slice (some ⟨B,O,none⟩) l.length c,.int .i64 (k:Int),.int .i64 (wi:Int)] w (Gives (.int .i64 (-1)) w):=by
 have hd1:decide (l.length≤k)=false:=decide_eq_false (by omega)
 have hd2:decide ((24:Int)<(wi:Int))=false:=decide_eq_false (by omega)
 have HWD:=qq (word_any o)
 have hs1:((tx (wd o)).toList == [])=false:=by
  rw [beq_eq_false_iff_ne,ByteArray.toList_eq,tx_list]
  have:=(kind_in ho).2.1
  intro e;rw [e] at this;cases this
 have hs2:(tx (wd o)).toList.isEmpty=false:=by
  rw [← List.beq_nil_eq];exact hs1
 generalize tx (wd o)=s at *
 have h0:(o == 0)=false:=by rw [beq_eq_false_iff_ne];omega
 have h1:(o == 1)=false:=by rw [beq_eq_false_iff_ne];omega
 have hE:=fun w=>neq_val vk vn vx vy 0 0 0 0 vs ⟨#[]⟩ w
 rw [show (⟨#[]⟩:ByteArray).data.toList=[] from rfl,hv] at hE
 go_enter Tryz.func58,Tryz.ntmps58
 go_wp2_with fail
 have kb:=box1 w (.cells #[.int .i64 o,.int .i64 vk,.int .i64 vn,.string vs,.int .i64 vx,.int .i64 vy] 46)
 have D:=Blk.made w 46 [.int .i64 o,.int .i64 vk,.int .i64 vn,.string vs,.int .i64 vx,.int .i64 vy] rfl
 change Blk (w.alloc (.cells #[.int .i64 o,.int .i64 vk,.int .i64 vn,.string vs,.int .i64 vx,.int .i64 vy] 46)) w.heap.size _ at D
 generalize w.alloc (.cells #[.int .i64 o,.int .i64 vk,.int .i64 vn,.string vs,.int .i64 vx,.int .i64 vy] 46)=w1 at *
 refine (HWD.out _).mono ?_
 rintro e w2 ⟨rfl,hb⟩
 have HB:=qq (Below.next kb hb)
 have D2:=D.next hb
 have c0:=D2.c 0 _ rfl;have c1:=D2.c 1 _ rfl;have c2:=D2.c 2 _ rfl;have c3:=D2.c 3 _ rfl;have c4:=D2.c 4 _ rfl;have c5:=D2.c 5 _ rfl
 clear hb kb D e0 e1 e2 e3 e4 e5
 go_wp2_with fail
 go_ret
 exact ⟨rfl,HB.out⟩
theorem one_any:∀ (d:Nat) (l:List No) (A:Option Addr) (c k wi:Nat) (w:World),Nds w A l→wi+d=25→l.length≤4294967296→Calls Tryz.prog 58 #[.slice A l.length c,.int .i64 (k:Int),.int .i64 (wi:Int)] w (Gives (onv l.length (ex d (l.drop k))) w)
 | d,l,A,c,k,wi,w,hn,hwi,hl=>by
   by_cases hk:k<l.length
   · cases d with
     | zero =>
       obtain rfl:wi=25:=by omega
       exact one_deep hk
     | succ d =>
       have ih:=one_any d
       obtain ⟨B,O,rfl⟩:=hn.shape (by omega)
       have HI:Hid (∀ (k wi:Nat) (w:World),Nds w (some ⟨B,O,none⟩) l→wi+d=25→Calls Tryz.prog 58 #[.slice (some ⟨B,O,none⟩) l.length c,.int .i64 (k:Int),.int .i64 (wi:Int)] w (Gives (onv l.length (ex d (l.drop k))) w)) :=
        fun k wi w h1 h2=>ih l (some ⟨B,O,none⟩) c k wi w h1 h2 hl
       clear ih
       have hw:wi≤24:=by omega
       have e0:=hn.cell hk 0 _ rfl
       have e1:=hn.cell hk 1 _ rfl
       have e2:=hn.cell hk 2 _ rfl
       have e3:=hn.cell hk 3 _ rfl
       have e4:=hn.cell hk 4 _ rfl
       have e5:=hn.cell hk 5 _ rfl
       rw [Nat.add_zero] at e0
       have hx:ex (d+1) (l.drop k)=if rn (nd l k)=true then it (ex d) (pa (nd l k).o) (l.drop (k+1)) else none:=by rw [drop_nd hk,ex_cons]
       have hleaf:rn (nd l k)=true→(nd l k).o=0∨(nd l k).o=1→onv l.length (ex (d+1) (l.drop k))=.int .i64 ((k+1:Nat):Int):=fun h h0=>by
        rw [hx,if_pos h,rn_leaf h0,it_zero]
        show Value.int .i64 ((l.length - (l.drop (k+1)).length:Nat):Int)=_
        rw [List.length_drop,show l.length - (l.length - (k+1))=k+1 by omega]
       have hbad:rn (nd l k)=false→onv l.length (ex (d+1) (l.drop k))=.int .i64 (-1):=fun h=>by
        rw [hx,if_neg (by rw [h];decide)];rfl
       obtain ⟨n,hnn⟩:∃ n,nd l k=n:=⟨_,rfl⟩
       rw [hnn] at e0 e1 e2 e3 e4 e5 hx hleaf hbad
       clear hnn
       obtain ⟨o,vk,vn,vs,vx,vy⟩:=n
       have hvs:(tx vs).data.toList=vs:=tx_list vs
       dsimp only at *
       by_cases h0:o=0
       · subst h0
         have hr:rn ⟨0,⟨vk,vn,vs,vx,vy⟩⟩=rt ⟨vk,vn,vs,vx,vy⟩:=if_pos rfl
         rcases Bool.eq_false_or_eq_true (rt ⟨vk,vn,vs,vx,vy⟩) with hv | hv
         · rw [hleaf (hr.trans hv) (.inl rfl)]
           exact one_val_yes hl (by rw [hvs];exact hv) hk hw e0 e1 e2 e3 e4 e5
         · rw [hbad (hr.trans hv)]
           exact one_val_no (by rw [hvs];exact hv) hk hw e0 e1 e2 e3 e4 e5
       by_cases h1:o=1
       · subst h1
         have hr:rn ⟨1,⟨vk,vn,vs,vx,vy⟩⟩=decide ((⟨vk,vn,vs,vx,vy⟩:Va)=nv vn∧0≤vn∧vn<5):=(if_neg (show ¬ (1:Int)=0 by decide)).trans (if_pos rfl)
         rcases Bool.eq_false_or_eq_true (rt ⟨vk,vn,vs,vx,vy⟩) with hv | hv
         · by_cases hk0:vk=0
           · subst hk0
             obtain ⟨_,hq⟩:=rt_int_in hv
             by_cases h2:vn<0
             · rw [hbad (hr.trans (decide_eq_false (by omega)))]
               exact one_name_low (by rw [hvs];exact hv) h2 hk hw e0 e1 e2 e3 e4 e5
             · by_cases h3:vn≤4
               · rw [hleaf (hr.trans (decide_eq_true ⟨by unfold nv;simp only [Va.mk.injEq];exact ⟨trivial,trivial,hq.1,hq.2.1,hq.2.2⟩,by omega,by omega⟩)) (.inr rfl)]
                 exact one_name_yes hl (by rw [hvs];exact hv) (by omega) h3 hk hw e0 e1 e2 e3 e4 e5
               · rw [hbad (hr.trans (decide_eq_false (by omega)))]
                 exact one_name_high (by rw [hvs];exact hv) (by omega) (by omega) hk hw e0 e1 e2 e3 e4 e5
           · rw [hbad (hr.trans (decide_eq_false (fun h=>hk0 (by have:=congrArg Va.k h.1;exact this))))]
             exact one_name_kind (by rw [hvs];exact hv) (beq_eq_false_iff_ne.2 hk0) hk hw e0 e1 e2 e3 e4 e5
         · rw [hbad (hr.trans (decide_eq_false (fun h=>by rw [h.1] at hv;rw [show rt (nv vn)=true from decide_eq_true (.inl ⟨rfl,by show _≤vn;omega,by show vn≤_;omega,rfl,rfl,rfl⟩)] at hv;cases hv)))]
           exact one_name_bad (by rw [hvs];exact hv) hk hw e0 e1 e2 e3 e4 e5
       have hr:rn ⟨o,⟨vk,vn,vs,vx,vy⟩⟩=decide ((2≤o∧o≤29)∧(⟨vk,vn,vs,vx,vy⟩:Va)=vz):=(if_neg h0).trans (if_neg h1)
       by_cases ho:2≤o∧o≤29
       · by_cases hv:(⟨vk,vn,vs,vx,vy⟩:Va)=vz
         · have HE:Hid (ex (d+1) (l.drop k)=it (ex d) (pa o) (l.drop (k+1))):=by
            show _=_
            rw [hx,if_pos (hr.trans (decide_eq_true ⟨ho,hv⟩))]
           clear hr hx hleaf hbad
           have HW:Hid (wi+1+d=25):=by show _=_;omega
           generalize ex (d+1) (l.drop k)=Z at *
           have HN:=qq hn
           clear hn hwi hvs
           unfold vz at hv
           obtain ⟨rfl,rfl,rfl,rfl,rfl⟩:=(Va.mk.injEq ..).mp hv
           clear hv
           rw [show tx []=⟨#[]⟩ from rfl] at e3
           have HWD:=qq (word_any o)
           have hs1:((tx (wd o)).toList == [])=false:=by
            rw [beq_eq_false_iff_ne,ByteArray.toList_eq,tx_list]
            have:=(kind_in ho).2.1
            intro e;rw [e] at this;cases this
           have hs2:(tx (wd o)).toList.isEmpty=false:=by
            rw [← List.beq_nil_eq];exact hs1
           generalize tx (wd o)=s at *
           have HPT:=qq (rparts_any o)
           have hp3:=pa_le o
           generalize pa o=p at *
           clear h0 h1
           have h0:(o == 0)=false:=by rw [beq_eq_false_iff_ne];omega
           have h1:(o == 1)=false:=by rw [beq_eq_false_iff_ne];omega
           clear ho
           have hE:=fun w=>neq_val 0 0 0 0 0 0 0 0 ⟨#[]⟩ ⟨#[]⟩ w
           rw [show ve ⟨0,0,(⟨#[]⟩:ByteArray).data.toList,0,0⟩ ⟨0,0,(⟨#[]⟩:ByteArray).data.toList,0,0⟩=true from decide_eq_true rfl] at hE
           have hd1:decide (l.length≤k)=false:=decide_eq_false (by omega)
           have hd2:decide ((24:Int)<(wi:Int))=false:=decide_eq_false (by omega)
           go_enter Tryz.func58,Tryz.ntmps58
           go_wp2_with fail
           have kb:=box1 w (.cells #[.int .i64 o,.int .i64 0,.int .i64 0,.string ⟨#[]⟩,.int .i64 0,.int .i64 0] 46)
           have D:=Blk.made w 46 [.int .i64 o,.int .i64 0,.int .i64 0,.string ⟨#[]⟩,.int .i64 0,.int .i64 0] rfl
           change Blk (w.alloc (.cells #[.int .i64 o,.int .i64 0,.int .i64 0,.string ⟨#[]⟩,.int .i64 0,.int .i64 0] 46)) w.heap.size _ at D
           generalize w.alloc (.cells #[.int .i64 o,.int .i64 0,.int .i64 0,.string ⟨#[]⟩,.int .i64 0,.int .i64 0] 46)=w1 at *
           refine (HWD.out _).mono ?_
           rintro e w2 ⟨rfl,hb⟩
           have HB:=qq (Below.next kb hb)
           have HD:=qq (D.next hb)
           obtain ⟨c0,c1,c2,c3,c4,c5⟩:=ck6 HD.out
           clear hb kb D e0 e1 e2 e3 e4 e5
           go_wp2_with fail
           clear c0 c1 c2 c3 c4 c5
           go_loopw [1,8] (fun a i wr=>∃ y q:Nat,q≤p∧y≤l.length∧i=.int .i64 (q:Int)∧a=.int .i64 (y:Int)∧Z=it (ex d) (p - q) (l.drop y)∧Below w.heap.size w wr∧Blk wr w.heap.size [.int .i64 o,.int .i64 0,.int .i64 0,.string ⟨#[]⟩,.int .i64 0,.int .i64 0]) (fun _ i _=>p - (intOf i).toNat)
           case atStart=>exact ⟨k+1,0,Nat.zero_le _,by omega,rfl,rfl,HE.out,HB.out,HD.out⟩
           case round =>
            obtain ⟨y,q,hq,hy,rfl,rfl,hz,hb,hd⟩:=hrel
            have c0:=hd.c 0 _ rfl
            have HB1:=qq hb
            have HD1:=qq hd
            have HZ:=qq hz
            clear hb hz hd HB HD HE
            go_wp2_with fail
            refine (HPT.out _).mono ?_
            rintro e w4 ⟨rfl,hb⟩
            have HB4:=qq (Below.next HB1.out hb)
            have HD4:=qq (HD1.out.next hb)
            clear hb HB1 HD1 c0
            by_cases hlt:q<p
            · have HC:=qq (HI.out y (wi+1) w4 (HN.out.next HB4.out) HW.out)
              have HZ1:Hid (Z=(ex d (l.drop y)).bind (it (ex d) (p - (q+1)))):=by
               show _=_
               rw [HZ.out,show p - q=(p - (q+1))+1 by omega,it_succ]
              clear HZ
              obtain ⟨x,hx⟩:∃ x,ex d (l.drop y)=x:=⟨_,rfl⟩
              rw [hx] at HC HZ1
              have HX:=qq hx
              clear hx
              cases x with
              | none =>
                have HEE:Hid (onv l.length Z=.int .i64 (-1)):=by show _=_;rw [HZ1.out];rfl
                clear HZ1
                unfold onv at HC
                go_wp2_with fail
                refine HC.out.mono ?_
                rintro e w5 ⟨rfl,hb⟩
                have HB5:=qq (Below.next HB4.out hb)
                clear hb
                go_wp2_with fail
                go_ret
                exact ⟨by rw [HEE.out];rfl,HB5.out⟩
              | some r =>
                obtain ⟨g1,g2,g3⟩:=ex_drop_len HX.out hy
                obtain ⟨v,hv⟩:∃ v,l.length - r.length=v:=⟨_,rfl⟩
                rw [hv] at g1 g2
                have HZ2:Hid (Z=it (ex d) (p - (q+1)) (l.drop v)):=by show _=_;rw [HZ1.out,← g1];rfl
                unfold onv at HC
                dsimp only at HC
                rw [hv] at HC
                have hv2:v≤l.length:=by omega
                clear HZ1 g1 hv HX
                go_wp2_with fail
                refine HC.out.mono ?_
                rintro e w5 ⟨rfl,hb⟩
                have HB5:=qq (Below.next HB4.out hb)
                have HD5:=qq (HD4.out.next hb)
                clear hb
                go_wp2_with fail
                go_roundw
                case rel=>exact ⟨v,q+1,by omega,hv2,by go_num,rfl,HZ2.out,HB5.out,HD5.out⟩
                case measure=>simp [intOf];omega
            · have HEE:Hid (onv l.length Z=.int .i64 (y:Int)):=by
               show _=_
               rw [HZ.out,show p - q=0 by omega,it_zero]
               show Value.int .i64 ((l.length - (l.drop y).length:Nat):Int)=_
               rw [List.length_drop,show l.length - (l.length - y)=y by omega]
              clear HZ
              go_wp2_with fail
              go_ret
              exact ⟨by rw [HEE.out];rfl,HB4.out⟩
         · rw [hbad (hr.trans (decide_eq_false (fun h=>hv h.2)))]
           exact one_kind_bad ho (decide_eq_false (by rw [hvs];exact hv)) hk hw e0 e1 e2 e3 e4 e5
       · rw [hbad (hr.trans (decide_eq_false (fun h=>ho h.1)))]
         exact one_out_kind (by omega) (beq_eq_false_iff_ne.2 h0) (beq_eq_false_iff_ne.2 h1) hk hw e0 e1 e2 e3 e4 e5
   · exact one_out d hk
end Go.Proofs.YtgakcpcpfkoaiaaGreatDoor.Ex
