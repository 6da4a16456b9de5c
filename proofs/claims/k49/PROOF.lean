import PyProof.Rows.All
import Wide.All
import OpenK.AllK
import Wide.FinOn
import HandS.ForMost
import HandS.Style
import HandS.Conv
import HandS.TupAny
import HandS.Flow
import HandS.Wide
import HandS.More
import HandS.EndBits
import HandS.IsInst
import PyProof.Rows.ReprR
import HandS.Dict
import KE.GoesMore
import PyProof.EnumMake
import HandS.Walk
import HandS.Zip
import HandS.WrittenGet
import PySem.Challenge.RW_splitscar_k49_images_of_any_value
set_option Elab.async false
set_option linter.all false
set_option maxRecDepth 100000
set_option maxHeartbeats 4000000
/-! The data layer: what a program does to data, told without addresses of what never changes. -/
namespace DL
open PySem L2

/-! ### values as data -/
/-- a value: data that never changes; an object that may change, at l; anything else that stands still -/
inductive AV where
  | d (x : PyData)
  | m (l : Addr)
  | x (φ : V → Hp → Prop)

mutual
/-- a value that reads as data; a list is one that the program made -/
inductive Dt (K : PySem.W.Frag) (F : Hp) : V → PyData → Prop
  | non : Dt K F .non .none
  | bl (b : Bool) : Dt K F (.bl b) (.bool b)
  | int (i : Int) : Dt K F (.int i) (.int i)
  | str (x : Str) : Dt K F (.str x) (.str x)
  | lst {a : Addr} {xs : List V} {ds : List PyData} : F a = some (.lst xs) → DtAll K F xs ds → Dt K F (.ref a) (.list ds)
  | tup {a : Addr} {xs : List V} {ds : List PyData} : SqT K F a xs → DtAll K F xs ds → Dt K F (.ref a) (.tuple ds)
  | dic {a : Addr} : F a = some (.dK []) → Dt K F (.ref a) (.dict [])
inductive DtAll (K : PySem.W.Frag) (F : Hp) : List V → List PyData → Prop
  | nil : DtAll K F [] []
  | cons {v : V} {vs : List V} {d : PyData} {ds : List PyData} : Dt K F v d → DtAll K F vs ds → DtAll K F (v :: vs) (d :: ds)
end
mutual
theorem Dt.dp {K : PySem.W.Frag} {F : Hp} : ∀ {v : V} {x : PyData}, x.canLay0 = true → Dt K F v x → Dp K F v x
  | _, _, _, .non => .non
  | _, _, _, .bl b => .bl b
  | _, _, _, .int i => .int i
  | _, _, _, .str x => .str x
  | _, _, c, .lst h r => .lst (.inl (.inl h)) (DtAll.dp (by simpa [PyData.canLay0] using c) r)
  | _, _, c, .tup h r => .tup h (DtAll.dp (by simpa [PyData.canLay0] using c) r)
  | _, _, c, .dic _ => by simp [PyData.canLay0] at c
theorem DtAll.dp {K : PySem.W.Frag} {F : Hp} : ∀ {vs : List V} {xs : List PyData}, PyData.canLayAll0 xs = true → DtAll K F vs xs → DpAll K F vs xs
  | _, _, _, .nil => .nil
  | _, _, c, .cons h r => by
    simp [PyData.canLayAll0] at c
    exact .cons (Dt.dp c.1 h) (DtAll.dp c.2 r)
end
theorem shaped_can {x : PyData} (h : SeqAt.shaped x = true) : x.canLay0 = true := by
  unfold SeqAt.shaped at h
  simp at h
  exact h.1
theorem sqT_mono {K : PySem.W.Frag} {F G : Hp} (e : Same F G) {a : Addr} {xs : List V} (h : SqT K F a xs) : SqT K G a xs := by
  rcases h with (h | ⟨o, h⟩) | h
  · exact .inl (.inl (e _ _ h))
  · exact .inl (.inr ⟨o, e _ _ h⟩)
  · exact .inr h
mutual
theorem dp_mono {K : PySem.W.Frag} {F G : Hp} (e : Same F G) : ∀ {v : V} {x : PyData}, Dt K F v x → Dt K G v x
  | _, _, .non => .non
  | _, _, .bl b => .bl b
  | _, _, .int i => .int i
  | _, _, .str x => .str x
  | _, _, .lst h r => .lst (e _ _ h) (dpAll_mono e r)
  | _, _, .tup h r => .tup (sqT_mono e h) (dpAll_mono e r)
  | _, _, .dic h => .dic (e _ _ h)
theorem dpAll_mono {K : PySem.W.Frag} {F G : Hp} (e : Same F G) : ∀ {vs : List V} {xs : List PyData}, DtAll K F vs xs → DtAll K G vs xs
  | _, _, .nil => .nil
  | _, _, .cons h r => .cons (dp_mono e h) (dpAll_mono e r)
end

def Rl (K : PySem.W.Frag) (F : Hp) (v : V) : AV → Prop
  | .d x => Dt K F v x
  | .m l => v = .ref l
  | .x φ => ∀ G, Same F G → φ v G
theorem rl_d {K : PySem.W.Frag} {F : Hp} {v : V} {x : PyData} (h : Dt K F v x) : Rl K F v (.d x) := h
theorem rl_m {K : PySem.W.Frag} {F : Hp} {l : Addr} : Rl K F (.ref l) (.m l) := rfl
theorem Rl.mono {K : PySem.W.Frag} {F G : Hp} (e : Same F G) {v : V} {a : AV} (h : Rl K F v a) : Rl K G v a := by
  cases a with
  | d x => exact dp_mono e h
  | m l => exact h
  | x φ => exact fun G' e' => h G' (e.trans e')
abbrev RlAll (K : PySem.W.Frag) (F : Hp) : List V → List AV → Prop := Paired (Rl K F)
theorem RlAll.mono {K : PySem.W.Frag} {F G : Hp} (e : Same F G) {vs : List V} {as : List AV} (h : RlAll K F vs as) : RlAll K G vs as :=
  Paired.mapP h fun _ _ r => r.mono e
theorem rlAll_d {K : PySem.W.Frag} {F : Hp} : ∀ {vs : List V} {ds : List PyData}, DtAll K F vs ds → RlAll K F vs (ds.map AV.d)
  | _, _, .nil => .nil
  | _, _, .cons h r => .cons h (rlAll_d r)
theorem rlAll_dp {K : PySem.W.Frag} {F : Hp} : ∀ {vs : List V} {ds : List PyData}, RlAll K F vs (ds.map AV.d) → DtAll K F vs ds
  | _, [], .nil => .nil
  | _, _ :: _, .cons h r => .cons h (rlAll_dp r)
theorem dpAll_len {K : PySem.W.Frag} {F : Hp} : ∀ {vs : List V} {ds : List PyData}, DtAll K F vs ds → vs.length = ds.length
  | _, _, .nil => rfl
  | _, _, .cons _ r => by simp [dpAll_len r]
theorem dpAll_get {K : PySem.W.Frag} {F : Hp} : ∀ {vs : List V} {ds : List PyData} {i : Nat} {x : PyData}, DtAll K F vs ds → ds[i]? = some x → ∃ v, vs[i]? = some v ∧ Dt K F v x
  | _, _, _, _, .nil, e => by simp at e
  | _, _, 0, _, .cons h _, e => by
    simp at e
    subst e
    exact ⟨_, rfl, h⟩
  | _, _, i + 1, _, .cons _ r, e => by
    obtain ⟨v, h1, h2⟩ := dpAll_get (i := i) r (by simpa using e)
    exact ⟨v, by simpa using h1, h2⟩
theorem dpAll_app {K : PySem.W.Frag} {F : Hp} : ∀ {vs ws : List V} {ds es : List PyData}, DtAll K F vs ds → DtAll K F ws es → DtAll K F (vs ++ ws) (ds ++ es)
  | _, _, _, _, .nil, s => s
  | _, _, _, _, .cons h r, s => .cons h (dpAll_app r s)
theorem dpAll_take {K : PySem.W.Frag} {F : Hp} : ∀ (n : Nat) {vs : List V} {ds : List PyData}, DtAll K F vs ds → DtAll K F (vs.take n) (ds.take n)
  | 0, _, _, _ => by simp; exact .nil
  | _ + 1, _, _, .nil => .nil
  | n + 1, _, _, .cons h r => .cons h (dpAll_take n r)
theorem dpAll_drop {K : PySem.W.Frag} {F : Hp} : ∀ (n : Nat) {vs : List V} {ds : List PyData}, DtAll K F vs ds → DtAll K F (vs.drop n) (ds.drop n)
  | 0, _, _, h => h
  | _ + 1, _, _, .nil => .nil
  | n + 1, _, _, .cons _ r => dpAll_drop n r
theorem dpAll_rev {K : PySem.W.Frag} {F : Hp} : ∀ {vs : List V} {ds : List PyData}, DtAll K F vs ds → DtAll K F vs.reverse ds.reverse
  | _, _, .nil => .nil
  | _, _, .cons h r => by
    simp only [List.reverse_cons]
    exact dpAll_app (dpAll_rev r) (.cons h .nil)

/-! ### what may change -/
inductive MO where
  | lst (as : List AV)
  | dct (kvs : List (Key × AV))
  | ins (C : Addr) (fs : List (Str × AV))
abbrev MH := Addr → Option MO
def updM (M : MH) (a : Addr) (o : MO) : MH := fun b => if b = a then some o else M b
def dropM (M : MH) (a : Addr) : MH := fun b => if b = a then none else M b
theorem updM_same {M : MH} {a : Addr} {o : MO} : updM M a o a = some o := if_pos rfl
theorem updM_ne {M : MH} {a b : Addr} {o : MO} (h : b ≠ a) : updM M a o b = M b := if_neg h
theorem updM_updM {M : MH} {a : Addr} {o u : MO} : updM (updM M a o) a u = updM M a u := by
  funext b; unfold updM; split <;> rfl
theorem updM_self {M : MH} {a : Addr} {o : MO} (h : M a = some o) : updM M a o = M := by
  funext b; unfold updM; split
  · rename_i e; rw [e, h]
  · rfl
theorem updM_comm {M : MH} {a b : Addr} {o u : MO} (h : a ≠ b) : updM (updM M a o) b u = updM (updM M b u) a o := by
  funext c; unfold updM
  by_cases h1 : c = b
  · by_cases h2 : c = a
    · exact absurd (h2.symm.trans h1) h
    · simp [h1, h2]; intro e; exact absurd e.symm h
  · simp [h1]

def MOk (K : PySem.W.Frag) (F H : Hp) (l : Addr) : MO → Prop
  | .lst as => ∃ vs, H l = some (.lst vs) ∧ RlAll K F vs as
  | .dct kvs => ∃ ws, H l = some (.dK ws) ∧ Paired (fun (p : Key × V) (q : Key × AV) => p.1 = q.1 ∧ Rl K F p.2 q.2) ws kvs
  | .ins C fs => ∃ dx ws, H l = some (.ins C dx ws) ∧ Paired (fun (p : Str × V) (q : Str × AV) => p.1 = q.1 ∧ Rl K F p.2 q.2) ws fs
theorem MOk.some {K : PySem.W.Frag} {F H : Hp} {l : Addr} {o : MO} (h : MOk K F H l o) : ∃ u, H l = Option.some u := by
  cases o with
  | lst as => obtain ⟨vs, e, _⟩ := h; exact ⟨_, e⟩
  | dct as => obtain ⟨vs, e, _⟩ := h; exact ⟨_, e⟩
  | ins C as => obtain ⟨dx, vs, e, _⟩ := h; exact ⟨_, e⟩
theorem MOk.stay {K : PySem.W.Frag} {F G H H' : Hp} {l : Addr} {o : MO} (h : MOk K F H l o) (e : Same F G) (hl : ∀ u, H l = Option.some u → H' l = Option.some u) : MOk K G H' l o := by
  cases o with
  | lst as => obtain ⟨vs, q, r⟩ := h; exact ⟨vs, hl _ q, r.mono e⟩
  | dct as => obtain ⟨vs, q, r⟩ := h; exact ⟨vs, hl _ q, Paired.mapP r fun _ _ z => ⟨z.1, z.2.mono e⟩⟩
  | ins C as => obtain ⟨dx, vs, q, r⟩ := h; exact ⟨dx, vs, hl _ q, Paired.mapP r fun _ _ z => ⟨z.1, z.2.mono e⟩⟩
structure Sep (K : PySem.W.Frag) (F : Hp) (M : MH) (H : Hp) : Prop where
  ex : Same F H
  mo : ∀ l o, M l = some o → F l = none ∧ MOk K F H l o
section
variable {K : PySem.W.Frag} {F G H : Hp} {M : MH} {p l : Addr} {o : HO}
theorem same_new (h : H p = none) : Same H (upd H p o) := fun b u e => by rw [upd_ne (ne_of_none e h)]; exact e
theorem Sep.fnone (s : Sep K F M H) (h : H p = none) : F p = none := s.ex.free h
theorem Sep.mnone (s : Sep K F M H) (h : H p = none) : M p = none := by
  cases e : M p with
  | none => rfl
  | some u =>
    obtain ⟨_, q⟩ := s.mo p u e
    obtain ⟨z, hz⟩ := q.some
    rw [h] at hz
    cases hz
/-- something new that will never change -/
theorem Sep.new (s : Sep K F M H) (h : H p = none) : Sep K (upd F p o) M (upd H p o) where
  ex := fun b u e => by
    by_cases hb : b = p
    · subst hb
      rw [upd_same] at e ⊢
      exact e
    · rw [upd_ne hb] at e ⊢
      exact s.ex b u e
  mo := fun l u e => by
    obtain ⟨h1, h2⟩ := s.mo l u e
    have hl : l ≠ p := fun z => by rw [z, s.mnone h] at e; cases e
    exact ⟨by rw [upd_ne hl]; exact h1, h2.stay (same_new (s.fnone h)) fun v q => by rw [upd_ne hl]; exact q⟩
/-- something new that may change -/
theorem Sep.newM {mo : MO} (s : Sep K F M H) (h : H p = none) (k : MOk K F (upd H p o) p mo) : Sep K F (updM M p mo) (upd H p o) where
  ex := s.ex.trans (same_new h)
  mo := fun l u e => by
    by_cases hl : l = p
    · subst hl
      rw [updM_same] at e
      cases e
      exact ⟨s.fnone h, k⟩
    · rw [updM_ne hl] at e
      obtain ⟨h1, h2⟩ := s.mo l u e
      exact ⟨h1, h2.stay (Same.refl F) fun v q => by rw [upd_ne hl]; exact q⟩
/-- a change -/
theorem Sep.set {mo mo' : MO} (s : Sep K F M H) (h : M l = some mo) (k : MOk K F (upd H l o) l mo') : Sep K F (updM M l mo') (upd H l o) where
  ex := fun b u e => by
    have hb : b ≠ l := fun z => by rw [z, (s.mo l mo h).1] at e; cases e
    rw [upd_ne hb]
    exact s.ex b u e
  mo := fun b u e => by
    by_cases hb : b = l
    · subst hb
      rw [updM_same] at e
      cases e
      exact ⟨(s.mo b mo h).1, k⟩
    · rw [updM_ne hb] at e
      obtain ⟨h1, h2⟩ := s.mo b u e
      exact ⟨h1, h2.stay (Same.refl F) fun v q => by rw [upd_ne hb]; exact q⟩
def SubM (M' M : MH) : Prop := ∀ l o, M' l = some o → M l = some o
theorem SubM.refl (M : MH) : SubM M M := fun _ _ h => h
theorem SubM.trans {A B C : MH} (a : SubM A B) (b : SubM B C) : SubM A C := fun l o h => b l o (a l o h)
theorem SubM.new {M' M : MH} {l : Addr} {mo : MO} (s : SubM M' M) (h : M l = none) : SubM M' (updM M l mo) := fun b u e => by
  have := s b u e
  by_cases hb : b = l
  · rw [hb, h] at this; cases this
  · rw [updM_ne hb]; exact this
theorem SubM.upd {M' M : MH} {l : Addr} {mo : MO} (s : SubM M' M) (h : M' l = none) : SubM M' (updM M l mo) := fun b u e => by
  by_cases hb : b = l
  · rw [hb, h] at e; cases e
  · rw [updM_ne hb]; exact s b u e
theorem SubM.both {M' M : MH} {l : Addr} {mo : MO} (s : SubM M' M) : SubM (updM M' l mo) (updM M l mo) := fun b u e => by
  by_cases hb : b = l
  · rw [hb, updM_same] at e ⊢; exact e
  · rw [updM_ne hb] at e ⊢; exact s b u e
theorem SubM.none {M' M : MH} {l : Addr} (s : SubM M' M) (h : M l = Option.none) : M' l = Option.none := by
  cases e : M' l with
  | none => rfl
  | some u => rw [s l u e] at h; cases h
theorem Sep.sub {M' : MH} (s : Sep K F M H) (h : SubM M' M) : Sep K F M' H := ⟨s.ex, fun l o e => s.mo l o (h l o e)⟩
/-- a list that will not change any more -/
theorem Sep.freeze {ds : List PyData} (s : Sep K F M H) (h : M l = some (.lst (ds.map AV.d))) : ∃ G, (Same F G ∧ ∀ b, b ≠ l → F b = none → G b = none) ∧ Dt K G (.ref l) (.list ds) ∧ Sep K G (dropM M l) H := by
  obtain ⟨fl, vs, hv, r⟩ := s.mo l _ h
  have e1 : Same F (upd F l (.lst vs)) := same_new fl
  refine ⟨upd F l (.lst vs), ⟨e1, fun b hb z => by rw [upd_ne hb]; exact z⟩, .lst upd_same (dpAll_mono e1 (rlAll_dp r)), fun b u e => ?_, fun b u e => ?_⟩
  · by_cases hb : b = l
    · subst hb
      rw [upd_same] at e
      cases e
      exact hv
    · rw [upd_ne hb] at e
      exact s.ex b u e
  · have hb : b ≠ l := fun z => by
      have e' : (if b = l then none else M b) = some u := e
      rw [if_pos z] at e'
      cases e'
    have e' : M b = some u := by
      have e' : (if b = l then none else M b) = some u := e
      rw [if_neg hb] at e'
      exact e'
    obtain ⟨h1, h2⟩ := s.mo b u e'
    exact ⟨by rw [upd_ne hb]; exact h1, h2.stay e1 fun v q => q⟩
end

/-! ### the frame -/
abbrev Env' := List (Option AV)
def SlotOk (K : PySem.W.Frag) (F : Hp) (ov : Option V) (oa : Option AV) : Prop := ∀ a, oa = some a → ∃ v, ov = some v ∧ Rl K F v a
abbrev EnvOk (K : PySem.W.Frag) (F : Hp) : St → Env' → Prop := Paired (SlotOk K F)
section
variable {K : PySem.W.Frag} {F G : Hp} {σ : St} {env : Env'}
theorem EnvOk.mono (e : Same F G) (h : EnvOk K F σ env) : EnvOk K G σ env := Paired.mapP h fun _ _ r a ha => by
  obtain ⟨v, h1, h2⟩ := r a ha
  exact ⟨v, h1, h2.mono e⟩
theorem EnvOk.get {i : Nat} {a : AV} : ∀ {σ : St} {env : Env'} {i : Nat}, EnvOk K F σ env → env[i]? = some (some a) → ∃ v, σ[i]? = some (some v) ∧ Rl K F v a
  | _, _, _, .nil, e => by simp at e
  | _, _, 0, .cons h _, e => by
    simp at e
    obtain ⟨v, h1, h2⟩ := h a e
    exact ⟨v, by simp [h1], h2⟩
  | _, _, i + 1, .cons _ r, e => by
    obtain ⟨v, h1, h2⟩ := EnvOk.get (i := i) r (by simpa using e)
    exact ⟨v, by simpa using h1, h2⟩
theorem EnvOk.set {v : V} {a : AV} (r : Rl K F v a) : ∀ {σ : St} {env : Env'} (i : Nat), EnvOk K F σ env → EnvOk K F (σ.set i (some v)) (env.set i (some a))
  | _, _, _, .nil => .nil
  | _, _, 0, .cons _ t => .cons (fun b hb => by cases hb; exact ⟨v, rfl, r⟩) t
  | _, _, i + 1, .cons h t => .cons h (EnvOk.set r i t)
theorem envOk_start {vs : List V} {as : List AV} (r : RlAll K F vs as) (n : Nat) : EnvOk K F (vs.map some ++ List.replicate n none) (as.map some ++ List.replicate n none) := by
  induction r with
  | nil =>
    induction n with
    | zero => exact .nil
    | succ n ih => exact .cons (fun a h => nomatch h) ih
  | cons h _ ih => exact .cons (fun a e => by cases e; exact ⟨_, rfl, h⟩) ih
end

/-! ### a step: what stood still stands; what is not told of is not touched -/
structure Step (F : Hp) (M : MH) (H : Hp) (G : Hp) (M' : MH) (H' : Hp) : Prop where
  same : Same F G
  fr : ∀ b o, H b = some o → M b = none → H' b = some o ∧ M' b = none ∧ (F b = none → G b = none)
instance {F : Hp} {M : MH} {H : Hp} {G : Hp} {M' : MH} {H' : Hp} : CoeOut (Step F M H G M' H') (Same F G) := ⟨Step.same⟩
section
variable {K : PySem.W.Frag} {F G G2 H H1 H2 : Hp} {M M1 M2 : MH} {p l : Addr} {o : HO}
theorem Step.refl : Step F M H F M H := ⟨Same.refl F, fun _ _ h m => ⟨h, m, id⟩⟩
theorem Step.trans (a : Step F M H G M1 H1) (b : Step G M1 H1 G2 M2 H2) : Step F M H G2 M2 H2 := ⟨a.same.trans b.same, fun c o h m => let ⟨h1, m1, f1⟩ := a.fr c o h m; let ⟨h2, m2, f2⟩ := b.fr c o h1 m1; ⟨h2, m2, fun z => f2 (f1 z)⟩⟩
theorem Step.new (s : Sep K F M H) (h : H p = none) : Step F M H (upd F p o) M (upd H p o) := ⟨same_new (s.fnone h), fun b u e m => ⟨same_new h b u e, m, fun z => by rw [upd_ne (ne_of_none e h)]; exact z⟩⟩
theorem Step.newM {mo : MO} (h : H p = none) : Step F M H F (updM M p mo) (upd H p o) := ⟨Same.refl F, fun b u e m => ⟨same_new h b u e, by rw [updM_ne (ne_of_none e h)]; exact m, id⟩⟩
theorem Step.set {mo mo' : MO} (h : M l = some mo) : Step F M H F (updM M l mo') (upd H l o) := ⟨Same.refl F, fun b u e m => by
  have hb : b ≠ l := fun z => by rw [z, h] at m; cases m
  exact ⟨by rw [upd_ne hb]; exact e, by rw [updM_ne hb]; exact m, id⟩⟩
theorem Step.sub (h : SubM M1 M) : Step F M H F M1 H := ⟨Same.refl F, fun b u e m => ⟨e, h.none m, id⟩⟩
end

/-! ### what is done: to data -/
abbrev KV := AV → MH → Prop
section
variable (K : PySem.W.Frag)
/-- the continuation of a value: whatever stands for the data -/
def Cont (F : Hp) (M : MH) (H : Hp) (R : KV) (Q : VK) : Prop := ∀ v a G M' H', Step F M H G M' H' → Rl K G v a → Sep K G M' H' → R a M' → Q v H'
def EE (t : TE) (env : Env') (M : MH) (R : KV) : Prop := ∀ F σ H Q, EnvOk K F σ env → Sep K F M H → Cont K F M H R Q → t σ H Q
def ContT (F : Hp) (M : MH) (H : Hp) (R : Bool → MH → Prop) (Q : Bool → Hp → Prop) : Prop := ∀ b G M' H', Step F M H G M' H' → Sep K G M' H' → R b M' → Q b H'
def ET (t : TT) (env : Env') (M : MH) (R : Bool → MH → Prop) : Prop := ∀ F σ H Q, EnvOk K F σ env → Sep K F M H → ContT K F M H R Q → t σ H Q
def ContA (F : Hp) (M : MH) (H : Hp) (R : List AV → MH → Prop) (Q : List V → Hp → Prop) : Prop := ∀ vs as G M' H', Step F M H G M' H' → RlAll K G vs as → Sep K G M' H' → R as M' → Q vs H'
def EA (t : TA) (env : Env') (M : MH) (R : List AV → MH → Prop) : Prop := ∀ F σ H Q, EnvOk K F σ env → Sep K F M H → ContA K F M H R Q → t σ H Q
/-- a rule of two values -/
def RR (r : R2) (a b : AV) (M : MH) (R : KV) : Prop := ∀ F H x y Q, Rl K F x a → Rl K F y b → Sep K F M H → Cont K F M H R Q → r x y H Q
def RU (r : V → Hp → VK → Prop) (a : AV) (M : MH) (R : KV) : Prop := ∀ F H x Q, Rl K F x a → Sep K F M H → Cont K F M H R Q → r x H Q
def RC (r : List V → Hp → VK → Prop) (as : List AV) (M : MH) (R : KV) : Prop := ∀ F H xs Q, RlAll K F xs as → Sep K F M H → Cont K F M H R Q → r xs H Q
structure Post where
  nx : Env' → MH → Prop
  rt : AV → MH → Prop := fun _ _ => False
  bk : Env' → MH → Prop := fun _ _ => False
  ct : Env' → MH → Prop := fun _ _ => False
def ContS (F : Hp) (M : MH) (H : Hp) (R : Env' → MH → Prop) (Q : St → Hp → Prop) : Prop := ∀ σ env G M' H', Step F M H G M' H' → EnvOk K G σ env → Sep K G M' H' → R env M' → Q σ H'
structure ContD (F : Hp) (M : MH) (H : Hp) (P : Post) (D : Ends) : Prop where
  nx : ContS K F M H P.nx D.nx
  rt : Cont K F M H P.rt D.rt
  bk : ContS K F M H P.bk D.bk
  ct : ContS K F M H P.ct D.ct
def SS (t : TS) (env : Env') (M : MH) (P : Post) : Prop := ∀ F σ H D, EnvOk K F σ env → Sep K F M H → ContD K F M H P D → t D σ H
end
section
variable {K : PySem.W.Frag} {F G H H1 : Hp} {M M1 : MH} {σ : St} {env : Env'}
theorem Cont.later {R : KV} {Q : VK} (c : Cont K F M H R Q) (e : Step F M H G M1 H1) : Cont K G M1 H1 R Q := fun v a G' M' H' s r p q => c v a G' M' H' (e.trans s) r p q
theorem ContT.later {R : Bool → MH → Prop} {Q : Bool → Hp → Prop} (c : ContT K F M H R Q) (e : Step F M H G M1 H1) : ContT K G M1 H1 R Q := fun v G' M' H' s p q => c v G' M' H' (e.trans s) p q
theorem ContA.later {R : List AV → MH → Prop} {Q : List V → Hp → Prop} (c : ContA K F M H R Q) (e : Step F M H G M1 H1) : ContA K G M1 H1 R Q := fun v a G' M' H' s r p q => c v a G' M' H' (e.trans s) r p q
theorem ContS.later {R : Env' → MH → Prop} {Q : St → Hp → Prop} (c : ContS K F M H R Q) (e : Step F M H G M1 H1) : ContS K G M1 H1 R Q := fun v a G' M' H' s r p q => c v a G' M' H' (e.trans s) r p q
theorem ContD.later {P : Post} {D : Ends} (c : ContD K F M H P D) (e : Step F M H G M1 H1) : ContD K G M1 H1 P D := ⟨c.nx.later e, c.rt.later e, c.bk.later e, c.ct.later e⟩
theorem Cont.imp {R R' : KV} {Q : VK} (c : Cont K F M H R Q) (h : ∀ a M, R' a M → R a M) : Cont K F M H R' Q := fun v a G' M' H' s r p q => c v a G' M' H' s r p (h _ _ q)
theorem EE.imp {t : TE} {R R' : KV} (h : EE K t env M R) (k : ∀ a M, R a M → R' a M) : EE K t env M R' := fun F σ H Q eo s c => h F σ H Q eo s (c.imp k)
theorem SS.imp {t : TS} {P P' : Post} (h : SS K t env M P) (k1 : ∀ e M, P.nx e M → P'.nx e M) (k2 : ∀ a M, P.rt a M → P'.rt a M) (k3 : ∀ e M, P.bk e M → P'.bk e M) (k4 : ∀ e M, P.ct e M → P'.ct e M) : SS K t env M P' :=
  fun F σ H D eo s c => h F σ H D eo s ⟨fun v a G' M' H' s r p q => c.nx v a G' M' H' s r p (k1 _ _ q), c.rt.imp k2, fun v a G' M' H' s r p q => c.bk v a G' M' H' s r p (k3 _ _ q), fun v a G' M' H' s r p q => c.ct v a G' M' H' s r p (k4 _ _ q)⟩

/-! ### expressions -/
theorem ee_var {i : Nat} {a : AV} {R : KV} (h : env[i]? = some (some a)) (k : R a M) : EE K (tVar i) env M R := fun F σ H Q eo s c => by
  obtain ⟨v, h1, h2⟩ := EnvOk.get (i := i) eo h
  exact ⟨v, h1, c v a F M H Step.refl h2 s k⟩
theorem ee_int {i : Int} {R : KV} (k : R (.d (.int i)) M) : EE K (tC (.int i)) env M R := fun F σ H Q eo s c => c _ _ F M H Step.refl (rl_d (.int i)) s k
theorem ee_str {i : Str} {R : KV} (k : R (.d (.str i)) M) : EE K (tC (.str i)) env M R := fun F σ H Q eo s c => c _ _ F M H Step.refl (rl_d (.str i)) s k
theorem ee_bl {i : Bool} {R : KV} (k : R (.d (.bool i)) M) : EE K (tC (.bl i)) env M R := fun F σ H Q eo s c => c _ _ F M H Step.refl (rl_d (.bl i)) s k
theorem ee_non {R : KV} (k : R (.d .none) M) : EE K (tC .non) env M R := fun F σ H Q eo s c => c _ _ F M H Step.refl (rl_d .non) s k
theorem ee_op {r : R2} {ta tb : TE} {R : KV} (h : EE K ta env M fun a M1 => EE K tb env M1 fun b M2 => RR K r a b M2 R) : EE K (tOp r ta tb) env M R := fun F σ H Q eo s c =>
  h F σ H _ eo s fun x a G1 M1 H1 e1 ra s1 h1 => h1 G1 σ H1 _ (eo.mono e1) s1 fun y b G2 M2 H2 e2 rb s2 h2 => h2 G2 H2 x y Q (ra.mono e2) rb s2 (c.later (e1.trans e2))
theorem ee_un {r : V → Hp → VK → Prop} {ta : TE} {R : KV} (h : EE K ta env M fun a M1 => RU K r a M1 R) : EE K (tUn r ta) env M R := fun F σ H Q eo s c =>
  h F σ H _ eo s fun x a G1 M1 H1 e1 ra s1 h1 => h1 G1 H1 x Q ra s1 (c.later e1)
theorem ea_nil {R : List AV → MH → Prop} (k : R [] M) : EA K tNil env M R := fun F σ H Q eo s c => c _ _ F M H Step.refl .nil s k
theorem ea_cons {ta : TE} {tr : TA} {R : List AV → MH → Prop} (h : EE K ta env M fun a M1 => EA K tr env M1 fun as M2 => R (a :: as) M2) : EA K (tCons ta tr) env M R := fun F σ H Q eo s c =>
  h F σ H _ eo s fun x a G1 M1 H1 e1 ra s1 h1 => h1 G1 σ H1 _ (eo.mono e1) s1 fun xs as G2 M2 H2 e2 rs s2 h2 => c _ _ G2 M2 H2 (e1.trans e2) (.cons (ra.mono e2) rs) s2 h2
theorem ee_cb {r : List V → Hp → VK → Prop} {ta : TA} {R : KV} (h : EA K ta env M fun as M1 => RC K r as M1 R) : EE K (tCB r ta) env M R := fun F σ H Q eo s c =>
  h F σ H _ eo s fun xs as G1 M1 H1 e1 rs s1 h1 => h1 G1 H1 xs Q rs s1 (c.later e1)
theorem paired_len {α β : Type} {r : α → β → Prop} : ∀ {xs : List α} {ys : List β}, Paired r xs ys → xs.length = ys.length
  | _, _, .nil => rfl
  | _, _, .cons _ t => by simp [paired_len t]
/-- a tuple, a list of data -/
theorem ee_tup {ta : TA} {R : KV} (h : EA K ta env M fun as M1 => ∃ ds, as = ds.map AV.d ∧ ds.length ≤ 100000 ∧ R (.d (.tuple ds)) M1) : EE K (tTup ta) env M R := fun F σ H Q eo s c =>
  h F σ H _ eo s fun xs as G1 M1 H1 e1 rs s1 ⟨ds, ea, hl, h1⟩ => by
    subst ea
    have rd := rlAll_dp rs
    refine ⟨Nat.le_trans (Nat.le_of_eq (dpAll_len rd)) (Nat.le_trans hl (by decide)), fun p hp => ?_⟩
    exact c _ _ (upd G1 p (.tup xs)) M1 _ (e1.trans (Step.new s1 hp)) (rl_d (.tup (.inl (.inl upd_same)) (dpAll_mono (same_new (s1.fnone hp)) rd))) (s1.new hp) h1
theorem ee_lst {ta : TA} {R : KV} (h : EA K ta env M fun as M1 => ∃ ds, as = ds.map AV.d ∧ ds.length ≤ 100000 ∧ R (.d (.list ds)) M1) : EE K (tLst ta) env M R := fun F σ H Q eo s c =>
  h F σ H _ eo s fun xs as G1 M1 H1 e1 rs s1 ⟨ds, ea, hl, h1⟩ => by
    subst ea
    have rd := rlAll_dp rs
    refine ⟨Nat.le_trans (Nat.le_of_eq (dpAll_len rd)) (Nat.le_trans hl (by decide)), fun p hp => ?_⟩
    exact c _ _ (upd G1 p (.lst xs)) M1 _ (e1.trans (Step.new s1 hp)) (rl_d (.lst upd_same (dpAll_mono (same_new (s1.fnone hp)) rd))) (s1.new hp) h1
/-- a list that may change -/
theorem ee_lstM {ta : TA} {R : KV} (h : EA K ta env M fun as M1 => as.length ≤ 100000 ∧ ∀ l, M1 l = none → R (.m l) (updM M1 l (.lst as))) : EE K (tLst ta) env M R := fun F σ H Q eo s c =>
  h F σ H _ eo s fun xs as G1 M1 H1 e1 rs s1 ⟨hl, h1⟩ => by
    refine ⟨Nat.le_trans (Nat.le_of_eq (paired_len rs)) (Nat.le_trans hl (by decide)), fun p hp => ?_⟩
    exact c _ _ G1 _ _ (e1.trans (Step.newM hp)) rl_m (s1.newM (mo := .lst as) hp ⟨xs, upd_same, rs⟩) (h1 p (s1.mnone hp))

/-! ### what is read: data, or a list that may change, as it stands -/
inductive Rda (M : MH) : AV → PyData → Prop
  | d (x : PyData) : Rda M (.d x) x
  | m {l : Addr} {ds : List PyData} : M l = some (.lst (ds.map AV.d)) → Rda M (.m l) (.list ds)
theorem Rda.dp {a : AV} {x : PyData} {v : V} (h : Rda M a x) (r : Rl K F v a) (s : Sep K F M H) : Dt K H v x := by
  cases h with
  | d x => exact dp_mono s.ex r
  | m e =>
    obtain ⟨_, vs, hv, rs⟩ := s.mo _ _ e
    have r' : v = .ref _ := r
    subst r'
    exact .lst hv (dpAll_mono s.ex (rlAll_dp rs))

/-! ### numbers -/
theorem dp_int {v : V} {i : Int} (h : Dt K F v (.int i)) : v = .int i := by cases h; rfl
theorem dp_str {v : V} {i : Str} (h : Dt K F v (.str i)) : v = .str i := by cases h; rfl
theorem dp_bl {v : V} {i : Bool} (h : Dt K F v (.bool i)) : v = .bl i := by cases h; rfl
theorem dp_non {v : V} (h : Dt K F v .none) : v = .non := by cases h; rfl
theorem dp_tup {v : V} {ds : List PyData} (h : Dt K F v (.tuple ds)) : ∃ a xs, v = .ref a ∧ SqT K F a xs ∧ DtAll K F xs ds := by
  cases h with
  | tup h r => exact ⟨_, _, rfl, h, r⟩
theorem dp_lst {v : V} {ds : List PyData} (h : Dt K F v (.list ds)) : ∃ a xs, v = .ref a ∧ F a = some (.lst xs) ∧ DtAll K F xs ds := by
  cases h with
  | lst h r => exact ⟨_, _, rfl, h, r⟩
theorem rr_i0 {g : Int → Int → V} {f : Int → Int → PyData} {i j : Int} {R : KV} (hg : ∀ (K : PySem.W.Frag) (F : Hp), Dt K F (g i j) (f i j)) (k : R (.d (f i j)) M) : RR K (rI0 g) (.d (.int i)) (.d (.int j)) M R := fun F H x y Q rx ry s c => by
  obtain rfl := dp_int rx
  obtain rfl := dp_int ry
  exact ⟨i, j, rfl, rfl, c _ _ F M H Step.refl (rl_d (hg K F)) s k⟩
theorem rr_i {C : Int → Int → Prop} {g : Int → Int → V} {f : Int → Int → PyData} {i j : Int} {R : KV} (hg : ∀ (K : PySem.W.Frag) (F : Hp), Dt K F (g i j) (f i j)) (hc : C i j) (k : R (.d (f i j)) M) : RR K (rI C g) (.d (.int i)) (.d (.int j)) M R := fun F H x y Q rx ry s c => by
  obtain rfl := dp_int rx
  obtain rfl := dp_int ry
  exact ⟨i, j, rfl, rfl, hc, c _ _ F M H Step.refl (rl_d (hg K F)) s k⟩
section
variable {i j : Int} {R : KV}
theorem rr_add (k : R (.d (.int (i + j))) M) : RR K (rI0 fun i j => .int (i + j)) (.d (.int i)) (.d (.int j)) M R := rr_i0 (f := fun i j => .int (i + j)) (fun _ _ => .int _) k
theorem rr_sub (k : R (.d (.int (i - j))) M) : RR K (rI0 fun i j => .int (i - j)) (.d (.int i)) (.d (.int j)) M R := rr_i0 (f := fun i j => .int (i - j)) (fun _ _ => .int _) k
theorem rr_mul (hc : CMul i j) (k : R (.d (.int (i * j))) M) : RR K (rI CMul fun i j => .int (i * j)) (.d (.int i)) (.d (.int j)) M R := rr_i (f := fun i j => .int (i * j)) (fun _ _ => .int _) hc k
theorem rr_mulW (hc : CMulW i j) (k : R (.d (.int (i * j))) M) : RR K (rI CMulW fun i j => .int (i * j)) (.d (.int i)) (.d (.int j)) M R := rr_i (f := fun i j => .int (i * j)) (fun _ _ => .int _) hc k
theorem rr_fdiv (hc : CDiv i j) (k : R (.d (.int (i / j))) M) : RR K (rI CDiv fun i j => .int (i / j)) (.d (.int i)) (.d (.int j)) M R := rr_i (f := fun i j => .int (i / j)) (fun _ _ => .int _) hc k
theorem rr_mod (hc : 0 < j) (k : R (.d (.int (i % j))) M) : RR K (rI (fun _ j => 0 < j) fun i j => .int (i % j)) (.d (.int i)) (.d (.int j)) M R := rr_i (f := fun i j => .int (i % j)) (fun _ _ => .int _) hc k
theorem rr_pow (hc : CPow i j) (k : R (.d (.int (i ^ j.toNat))) M) : RR K (rI CPow fun i j => .int (i ^ j.toNat)) (.d (.int i)) (.d (.int j)) M R := rr_i (f := fun i j => .int (i ^ j.toNat)) (fun _ _ => .int _) hc k
theorem rr_lt (k : R (.d (.bool (decide (i < j)))) M) : RR K (rI0 fun i j => .bl (decide (i < j))) (.d (.int i)) (.d (.int j)) M R := rr_i0 (f := fun i j => .bool (decide (i < j))) (fun _ _ => .bl _) k
theorem rr_le (k : R (.d (.bool (decide (i ≤ j)))) M) : RR K (rI0 fun i j => .bl (decide (i ≤ j))) (.d (.int i)) (.d (.int j)) M R := rr_i0 (f := fun i j => .bool (decide (i ≤ j))) (fun _ _ => .bl _) k
theorem rr_gt (k : R (.d (.bool (decide (j < i)))) M) : RR K (rI0 fun i j => .bl (decide (j < i))) (.d (.int i)) (.d (.int j)) M R := rr_i0 (f := fun i j => .bool (decide (j < i))) (fun _ _ => .bl _) k
theorem rr_ge (k : R (.d (.bool (decide (j ≤ i)))) M) : RR K (rI0 fun i j => .bl (decide (j ≤ i))) (.d (.int i)) (.d (.int j)) M R := rr_i0 (f := fun i j => .bool (decide (j ≤ i))) (fun _ _ => .bl _) k
theorem ru_neg (k : R (.d (.int (-i))) M) : RU K (rU fun i => .int (-i)) (.d (.int i)) M R := fun F H x Q rx s c => by
  obtain rfl := dp_int rx
  exact ⟨i, rfl, c _ _ F M H Step.refl (rl_d (.int _)) s k⟩
end
/-- == and != of data -/
theorem rr_eqD {a b : AV} {x y : PyData} {R : KV} (ha : Rda M a x) (hb : Rda M b y) (hx : SeqAt.shaped x = true) (hy : SeqAt.shaped y = true) (k : R (.d (.bool (PyData.eqv x y))) M) : RR K (rEqD K) a b M R := fun F H u v Q ru rv s c =>
  ⟨x, y, (ha.dp ru s).dp (shaped_can hx), (hb.dp rv s).dp (shaped_can hy), hx, hy, c _ _ F M H Step.refl (rl_d (.bl _)) s k⟩
theorem rr_neD {a b : AV} {x y : PyData} {R : KV} (ha : Rda M a x) (hb : Rda M b y) (hx : SeqAt.shaped x = true) (hy : SeqAt.shaped y = true) (k : R (.d (.bool (!PyData.eqv x y))) M) : RR K (rNeD K) a b M R := fun F H u v Q ru rv s c =>
  ⟨x, y, (ha.dp ru s).dp (shaped_can hx), (hb.dp rv s).dp (shaped_can hy), hx, hy, c _ _ F M H Step.refl (rl_d (.bl _)) s k⟩
/-- == and != of two ints (texts, bools): no shape is asked -/
theorem rr_eqI {i j : Int} {R : KV} (k : R (.d (.bool (decide (i = j)))) M) : RR K rEq (.d (.int i)) (.d (.int j)) M R := fun F H x y Q rx ry s c => by
  obtain rfl := dp_int rx
  obtain rfl := dp_int ry
  have e : decide (V.int i = V.int j) = decide (i = j) := by simp
  exact ⟨rfl, by rw [e]; exact c _ _ F M H Step.refl (rl_d (.bl _)) s k⟩
theorem rr_neI {i j : Int} {R : KV} (k : R (.d (.bool (!decide (i = j)))) M) : RR K rNe (.d (.int i)) (.d (.int j)) M R := fun F H x y Q rx ry s c => by
  obtain rfl := dp_int rx
  obtain rfl := dp_int ry
  have e : decide (V.int i = V.int j) = decide (i = j) := by simp
  exact ⟨rfl, by rw [e]; exact c _ _ F M H Step.refl (rl_d (.bl _)) s k⟩

/-! ### tests and truth -/
theorem et_B {t : TE} {R : Bool → MH → Prop} (h : EE K t env M fun a M1 => ∃ b, a = .d (.bool b) ∧ R b M1) : ET K (tB t) env M R := fun F σ H Q eo s c =>
  h F σ H _ eo s fun x a G1 M1 H1 e1 ra s1 ⟨b, ea, h1⟩ => by
    subst ea
    obtain rfl := dp_bl ra
    exact ⟨b, rfl, c _ G1 M1 H1 e1 s1 h1⟩
theorem et_test {t : TE} {R : Bool → MH → Prop} (h : EE K t env M fun a M1 => ∃ b, a = .d (.bool b) ∧ R b M1) : ET K (tTest t) env M R := fun F σ H Q eo s c =>
  h F σ H _ eo s fun x a G1 M1 H1 e1 ra s1 ⟨b, ea, h1⟩ => by
    subst ea
    obtain rfl := dp_bl ra
    exact ⟨b, rfl, c _ G1 M1 H1 e1 s1 h1⟩
theorem et_and {t u : TT} {R : Bool → MH → Prop} (h : ET K t env M fun b M1 => (b = true → ET K u env M1 R) ∧ (b = false → R false M1)) : ET K (tAnd t u) env M R := fun F σ H Q eo s c =>
  h F σ H _ eo s fun b G1 M1 H1 e1 s1 ⟨h1, h2⟩ => by
    cases b with
    | true => exact h1 rfl G1 σ H1 Q (eo.mono e1) s1 (c.later e1)
    | false => exact c _ G1 M1 H1 e1 s1 (h2 rfl)
theorem et_or {t u : TT} {R : Bool → MH → Prop} (h : ET K t env M fun b M1 => (b = true → R true M1) ∧ (b = false → ET K u env M1 R)) : ET K (tOr t u) env M R := fun F σ H Q eo s c =>
  h F σ H _ eo s fun b G1 M1 H1 e1 s1 ⟨h1, h2⟩ => by
    cases b with
    | true => exact c _ G1 M1 H1 e1 s1 (h1 rfl)
    | false => exact h2 rfl G1 σ H1 Q (eo.mono e1) s1 (c.later e1)
theorem et_not {t : TT} {R : Bool → MH → Prop} (h : ET K t env M fun b M1 => R (!b) M1) : ET K (tNot t) env M R := fun F σ H Q eo s c =>
  h F σ H _ eo s fun b G1 M1 H1 e1 s1 h1 => c _ G1 M1 H1 e1 s1 h1
theorem ee_andV {ta tb : TE} {R : KV} (h : EE K ta env M fun a M1 => ∃ b, a = .d (.bool b) ∧ (b = true → EE K tb env M1 R) ∧ (b = false → R (.d (.bool false)) M1)) : EE K (tAndV ta tb) env M R := fun F σ H Q eo s c =>
  h F σ H _ eo s fun x a G1 M1 H1 e1 ra s1 ⟨b, ea, h1, h2⟩ => by
    subst ea
    obtain rfl := dp_bl ra
    cases b with
    | true => exact ⟨true, rfl, h1 rfl G1 σ H1 Q (eo.mono e1) s1 (c.later e1)⟩
    | false => exact ⟨false, rfl, c _ _ G1 M1 H1 e1 (rl_d (.bl false)) s1 (h2 rfl)⟩
theorem ee_orV {ta tb : TE} {R : KV} (h : EE K ta env M fun a M1 => ∃ b, a = .d (.bool b) ∧ (b = true → R (.d (.bool true)) M1) ∧ (b = false → EE K tb env M1 R)) : EE K (tOrV ta tb) env M R := fun F σ H Q eo s c =>
  h F σ H _ eo s fun x a G1 M1 H1 e1 ra s1 ⟨b, ea, h1, h2⟩ => by
    subst ea
    obtain rfl := dp_bl ra
    cases b with
    | true => exact ⟨true, rfl, c _ _ G1 M1 H1 e1 (rl_d (.bl true)) s1 (h1 rfl)⟩
    | false => exact ⟨false, rfl, h2 rfl G1 σ H1 Q (eo.mono e1) s1 (c.later e1)⟩
theorem ee_notV {ta : TE} {R : KV} (h : EE K ta env M fun a M1 => ∃ b, a = .d (.bool b) ∧ R (.d (.bool (!b))) M1) : EE K (tNotV ta) env M R := fun F σ H Q eo s c =>
  h F σ H _ eo s fun x a G1 M1 H1 e1 ra s1 ⟨b, ea, h1⟩ => by
    subst ea
    obtain rfl := dp_bl ra
    exact ⟨b, rfl, c _ _ G1 M1 H1 e1 (rl_d (.bl _)) s1 h1⟩
theorem ee_if {t : TT} {ta tb : TE} {R : KV} (h : ET K t env M fun b M1 => (b = true → EE K ta env M1 R) ∧ (b = false → EE K tb env M1 R)) : EE K (tIf t ta tb) env M R := fun F σ H Q eo s c =>
  h F σ H _ eo s fun b G1 M1 H1 e1 s1 ⟨h1, h2⟩ => by
    cases b with
    | true => exact h1 rfl G1 σ H1 Q (eo.mono e1) s1 (c.later e1)
    | false => exact h2 rfl G1 σ H1 Q (eo.mono e1) s1 (c.later e1)
end
end DL

set_option Elab.async false
set_option linter.all false
set_option maxRecDepth 100000
set_option maxHeartbeats 4000000
namespace DL
open PySem L2
variable {K : PySem.W.Frag} {F G H : Hp} {M : MH} {σ : St} {env : Env'}

/-! ### places and parts of data -/
def atD : PyData → Int → Option PyData
  | .list ds, i => atI ds i
  | .tuple ds, i => atI ds i
  | _, _ => none
def cutL {α : Type} (xs : List α) (lo hi : Option Int) : List α := (xs.drop (HT.sIx xs.length 0 lo)).take (HT.sIx xs.length xs.length hi - HT.sIx xs.length 0 lo)
theorem dpAll_atI {vs : List V} {ds : List PyData} {i : Int} {x : PyData} (h : DtAll K F vs ds) (e : atI ds i = some x) : ∃ v, atI vs i = some v ∧ Dt K F v x := by
  unfold atI at e ⊢
  rw [dpAll_len h]
  cases q : ixN ds.length i with
  | none => rw [q] at e; cases e
  | some j =>
    rw [q] at e
    exact dpAll_get h e
theorem dpAll_cut {vs : List V} {ds : List PyData} (lo hi : Option Int) (h : DtAll K F vs ds) : DtAll K F (cutV vs lo hi) (cutL ds lo hi) := by
  unfold cutV cutL
  rw [dpAll_len h]
  exact dpAll_take _ (dpAll_drop _ h)
theorem rlAll_len {vs : List V} {as : List AV} (h : RlAll K F vs as) : vs.length = as.length := paired_len h
theorem rlAll_get {vs : List V} {as : List AV} {i : Nat} {a : AV} (h : RlAll K F vs as) (e : as[i]? = some a) : ∃ v, vs[i]? = some v ∧ Rl K F v a := by
  induction h generalizing i with
  | nil => simp at e
  | cons r _ ih =>
    cases i with
    | zero => simp at e; subst e; exact ⟨_, rfl, r⟩
    | succ i =>
      obtain ⟨v, h1, h2⟩ := ih (i := i) (by simpa using e)
      exact ⟨v, by simpa using h1, h2⟩
theorem rlAll_app {vs ws : List V} {as bs : List AV} (h : RlAll K F vs as) (h' : RlAll K F ws bs) : RlAll K F (vs ++ ws) (as ++ bs) := by
  induction h with
  | nil => exact h'
  | cons r _ ih => exact .cons r ih
theorem rlAll_set {vs : List V} {as : List AV} {v : V} {a : AV} (h : RlAll K F vs as) (r : Rl K F v a) (i : Nat) : RlAll K F (vs.set i v) (as.set i a) := by
  induction h generalizing i with
  | nil => exact .nil
  | cons q t ih =>
    cases i with
    | zero => exact .cons r t
    | succ i => exact .cons q (ih i)

/-! ### subscripts -/
theorem rr_ix {a : AV} {x d : PyData} {i : Int} {R : KV} (ha : Rda M a x) (h : atD x i = some d) (k : ∀ v, Rl K F v (.d d) → True) (kk : R (.d d) M) (hh : ∀ l, a ≠ .m l) : RR K (rIx K) a (.d (.int i)) M R := fun F H u v Q ru rv s c => by
  obtain rfl := dp_int rv
  cases ha with
  | m e => exact absurd rfl (hh _)
  | d x =>
    cases x with
    | list ds =>
      obtain ⟨p, xs, rfl, hp, r⟩ := dp_lst ru
      obtain ⟨w, h1, h2⟩ := dpAll_atI r h
      exact .inl ⟨p, xs, i, w, rfl, rfl, .inl (.inl (s.ex _ _ hp)), h1, c _ _ F M H Step.refl (rl_d h2) s kk⟩
    | tuple ds =>
      obtain ⟨p, xs, rfl, hp, r⟩ := dp_tup ru
      obtain ⟨w, h1, h2⟩ := dpAll_atI r h
      exact .inr (.inl ⟨p, xs, i, w, rfl, rfl, sqT_mono s.ex hp, h1, c _ _ F M H Step.refl (rl_d h2) s kk⟩)
    | none => cases h
    | bool _ => cases h
    | int _ => cases h
    | str _ => cases h
    | dict _ => cases h
theorem rr_ixD {x d : PyData} {i : Int} {R : KV} (h : atD x i = some d) (k : R (.d d) M) : RR K (rIx K) (.d x) (.d (.int i)) M R := rr_ix (F := fun _ => none) (.d x) h (fun _ _ => trivial) k (fun _ e => nomatch e)
/-- an item of a list that may change -/
theorem rr_ixM {l : Addr} {as : List AV} {a : AV} {i : Int} {R : KV} (e : M l = some (.lst as)) (h : atI as i = some a) (k : R a M) : RR K (rIx K) (.m l) (.d (.int i)) M R := fun F H u v Q ru rv s c => by
  obtain rfl := dp_int rv
  have ru' : u = .ref l := ru
  subst ru'
  obtain ⟨fl, vs, hv, rs⟩ := s.mo _ _ e
  have hl := rlAll_len rs
  have hw : ∃ w, atI vs i = some w ∧ Rl K F w a := by
    unfold atI at h ⊢
    rw [hl]
    cases q : ixN as.length i with
    | none => rw [q] at h; cases h
    | some j => rw [q] at h; exact rlAll_get rs h
  obtain ⟨w, h1, h2⟩ := hw
  exact .inl ⟨l, vs, i, w, rfl, rfl, .inl (.inl hv), h1, c _ _ F M H Step.refl h2 s k⟩

/-! ### parts -/
def EO (K : PySem.W.Frag) (t : TO) (env : Env') (M : MH) (R : Option Int → MH → Prop) : Prop := ∀ F σ H Q, EnvOk K F σ env → Sep K F M H → (∀ o G M' H', Step F M H G M' H' → Sep K G M' H' → R o M' → Q o H') → t σ H Q
theorem eo_none {R : Option Int → MH → Prop} (k : R none M) : EO K tNoPart env M R := fun F σ H Q eo s c => c _ F M H Step.refl s k
theorem eo_some {t : TE} {R : Option Int → MH → Prop} (h : EE K t env M fun a M1 => ∃ i, a = .d (.int i) ∧ R (some i) M1) : EO K (tPart t) env M R := fun F σ H Q eo s c =>
  h F σ H _ eo s fun x a G1 M1 H1 e1 ra s1 ⟨i, ea, h1⟩ => by
    subst ea
    obtain rfl := dp_int ra
    exact ⟨i, rfl, c _ G1 M1 H1 e1 s1 h1⟩
def RS (K : PySem.W.Frag) (r : V → Option Int → Option Int → Hp → VK → Prop) (a : AV) (lo hi : Option Int) (M : MH) (R : KV) : Prop := ∀ F H x Q, Rl K F x a → Sep K F M H → Cont K F M H R Q → r x lo hi H Q
theorem ee_sl {r : V → Option Int → Option Int → Hp → VK → Prop} {te : TE} {tl th : TO} {R : KV} (h : EE K te env M fun a M1 => EO K tl env M1 fun lo M2 => EO K th env M2 fun hi M3 => RS K r a lo hi M3 R) : EE K (tSl r te tl th) env M R := fun F σ H Q eo s c =>
  h F σ H _ eo s fun x a G1 M1 H1 e1 ra s1 h1 => h1 G1 σ H1 _ (eo.mono e1) s1 fun lo G2 M2 H2 e2 s2 h2 => h2 G2 σ H2 _ (eo.mono (e1.trans e2)) s2 fun hi G3 M3 H3 e3 s3 h3 =>
    h3 G3 H3 x Q (ra.mono (e2.trans e3)) s3 (c.later ((e1.trans e2).trans e3))
theorem rs_list {a : AV} {ds : List PyData} {lo hi : Option Int} {R : KV} (ha : Rda M a (.list ds)) (k : R (.d (.list (cutL ds lo hi))) M) : RS K (rSlL K) a lo hi M R := fun F H x Q rx s c => by
  have key : ∃ p xs, x = .ref p ∧ H p = some (.lst xs) ∧ DtAll K F xs ds := by
    cases ha with
    | d =>
      obtain ⟨p, xs, e, hp, r⟩ := dp_lst rx
      exact ⟨p, xs, e, s.ex _ _ hp, r⟩
    | m e =>
      obtain ⟨_, vs, hv, rs⟩ := s.mo _ _ e
      exact ⟨_, vs, rx, hv, rlAll_dp rs⟩
  obtain ⟨p, xs, rfl, hp, r⟩ := key
  exact ⟨p, xs, rfl, .inl (.inl hp), fun q hq => c _ _ (upd F q (.lst (cutV xs lo hi))) M _ (Step.new s hq) (rl_d (.lst upd_same (dpAll_mono (same_new (s.fnone hq)) (dpAll_cut lo hi r)))) (s.new hq) k⟩
theorem cut_whole {α : Type} (xs : List α) {lo hi : Option Int} (h : HT.sIx xs.length 0 lo = 0 ∧ HT.sIx xs.length xs.length hi = xs.length) : cutL xs lo hi = xs := by
  unfold cutL
  rw [h.1, h.2]
  simp
theorem rs_tup {ds : List PyData} {lo hi : Option Int} {R : KV} (k : R (.d (.tuple (cutL ds lo hi))) M) : RS K (rSlA K) (.d (.tuple ds)) lo hi M R := fun F H x Q rx s c => by
  obtain ⟨p, xs, rfl, hp, r⟩ := dp_tup rx
  refine ⟨p, xs, rfl, sqT_mono s.ex hp, fun hw => ?_, fun _ q hq => ?_⟩
  · rw [dpAll_len r] at hw
    rw [cut_whole ds hw] at k
    exact c _ _ F M H Step.refl rx s k
  · exact c _ _ (upd F q (.tup (cutV xs lo hi))) M _ (Step.new s hq) (rl_d (.tup (.inl (.inl upd_same)) (dpAll_mono (same_new (s.fnone hq)) (dpAll_cut lo hi r)))) (s.new hq) k
theorem ee_rev {te : TE} {R : KV} (h : EE K te env M fun a M1 => ∃ ds, Rda M1 a (.list ds) ∧ R (.d (.list ds.reverse)) M1) : EE K (tRevL K te) env M R := fun F σ H Q eo s c =>
  h F σ H _ eo s fun x a G1 M1 H1 e1 ra s1 ⟨ds, ha, h1⟩ => by
    have d := ha.dp ra s1
    have key : ∃ p xs, x = .ref p ∧ H1 p = some (.lst xs) ∧ DtAll K G1 xs ds := by
      cases ha with
      | d =>
        obtain ⟨p, xs, e, hp, r⟩ := dp_lst ra
        exact ⟨p, xs, e, s1.ex _ _ hp, r⟩
      | m e =>
        obtain ⟨_, vs, hv, rs⟩ := s1.mo _ _ e
        exact ⟨_, vs, ra, hv, rlAll_dp rs⟩
    obtain ⟨p, xs, rfl, hp, r⟩ := key
    exact ⟨p, xs, rfl, .inl (.inl hp), fun q hq => c _ _ (upd G1 q (.lst xs.reverse)) M1 _ (e1.trans (Step.new s1 hq)) (rl_d (.lst upd_same (dpAll_mono (same_new (s1.fnone hq)) (dpAll_rev r)))) (s1.new hq) h1⟩

/-! ### joined -/
theorem rr_catT {ds es : List PyData} {R : KV} (hl : ds.length + es.length ≤ 100000) (k : R (.d (.tuple (ds ++ es))) M) : RR K (rCatA K) (.d (.tuple ds)) (.d (.tuple es)) M R := fun F H x y Q rx ry s c => by
  obtain ⟨p, xs, rfl, hp, r⟩ := dp_tup rx
  obtain ⟨q, ys, rfl, hq, r'⟩ := dp_tup ry
  have l1 := dpAll_len r
  have l2 := dpAll_len r'
  refine ⟨p, q, xs, ys, rfl, rfl, sqT_mono s.ex hp, sqT_mono s.ex hq, Nat.le_trans (by rw [l1, l2]; exact hl) (by decide), fun e => ?_, fun _ e => ?_, fun _ _ z hz => ?_⟩
  · subst e
    cases r
    exact c _ _ F M H Step.refl ry s k
  · subst e
    cases r'
    rw [List.append_nil] at k
    exact c _ _ F M H Step.refl rx s k
  · exact c _ _ (upd F z (.tup (xs ++ ys))) M _ (Step.new s hz) (rl_d (.tup (.inl (.inl upd_same)) (dpAll_mono (same_new (s.fnone hz)) (dpAll_app r r')))) (s.new hz) k
theorem Rda.lst {a : AV} {ds : List PyData} {x : V} (ha : Rda M a (.list ds)) (rx : Rl K F x a) (s : Sep K F M H) : ∃ p xs, x = .ref p ∧ H p = some (.lst xs) ∧ DtAll K F xs ds := by
  cases ha with
  | d =>
    obtain ⟨p, xs, e, hp, r⟩ := dp_lst rx
    exact ⟨p, xs, e, s.ex _ _ hp, r⟩
  | m e =>
    obtain ⟨_, vs, hv, rs⟩ := s.mo _ _ e
    exact ⟨_, vs, rx, hv, rlAll_dp rs⟩
theorem rr_cat {a b : AV} {ds es : List PyData} {R : KV} (ha : Rda M a (.list ds)) (hb : Rda M b (.list es)) (hl : ds.length + es.length ≤ 100000) (k : R (.d (.list (ds ++ es))) M) : RR K rCat a b M R := fun F H x y Q rx ry s c => by
  obtain ⟨p, xs, rfl, hp, r⟩ := ha.lst rx s
  obtain ⟨q, ys, rfl, hq, r'⟩ := hb.lst ry s
  have l1 := dpAll_len r
  have l2 := dpAll_len r'
  exact ⟨p, q, xs, ys, rfl, rfl, hp, hq, Nat.le_trans (by rw [l1, l2]; exact hl) (by decide), fun z hz => c _ _ (upd F z (.lst (xs ++ ys))) M _ (Step.new s hz) (rl_d (.lst upd_same (dpAll_mono (same_new (s.fnone hz)) (dpAll_app r r')))) (s.new hz) k⟩

/-! ### built-ins -/
theorem rla1 {xs : List V} {a : AV} (h : RlAll K F xs [a]) : ∃ x, xs = [x] ∧ Rl K F x a := by
  cases h with
  | cons r t => cases t; exact ⟨_, rfl, r⟩
theorem rla2 {xs : List V} {a b : AV} (h : RlAll K F xs [a, b]) : ∃ x y, xs = [x, y] ∧ Rl K F x a ∧ Rl K F y b := by
  cases h with
  | cons r t =>
    obtain ⟨y, e, r2⟩ := rla1 t
    subst e
    exact ⟨_, _, rfl, r, r2⟩
theorem rc_len_list {a : AV} {ds : List PyData} {R : KV} (ha : Rda M a (.list ds)) (k : R (.d (.int ds.length)) M) : RC K (fun xs H Q => ∃ x n, xs = [x] ∧ LenV K x H n ∧ Q (.int n) H) [a] M R := fun F H xs Q rs s c => by
  obtain ⟨x, rfl, rx⟩ := rla1 rs
  obtain ⟨p, ys, rfl, hp, r⟩ := ha.lst rx s
  exact ⟨.ref p, ds.length, rfl, .inl ⟨ys, .inl (.inl hp), (dpAll_len r).symm⟩, c _ _ F M H Step.refl (rl_d (.int _)) s k⟩
theorem rc_len_tup {ds : List PyData} {R : KV} (k : R (.d (.int ds.length)) M) : RC K (fun xs H Q => ∃ x n, xs = [x] ∧ LenV K x H n ∧ Q (.int n) H) [.d (.tuple ds)] M R := fun F H xs Q rs s c => by
  obtain ⟨x, rfl, rx⟩ := rla1 rs
  obtain ⟨p, ys, rfl, hp, r⟩ := dp_tup rx
  exact ⟨.ref p, ds.length, rfl, .inr ⟨ys, sqT_mono s.ex hp, (dpAll_len r).symm⟩, c _ _ F M H Step.refl (rl_d (.int _)) s k⟩
theorem rc_len_str {z : Str} {R : KV} (hz : z.length ≤ 100000) (k : R (.d (.int z.length)) M) : RC K (fun xs H Q => ∃ x n, xs = [x] ∧ LenV K x H n ∧ Q (.int n) H) [.d (.str z)] M R := fun F H xs Q rs s c => by
  obtain ⟨x, rfl, rx⟩ := rla1 rs
  obtain rfl := dp_str rx
  exact ⟨.str z, z.length, rfl, ⟨Nat.le_trans hz (by decide), rfl⟩, c _ _ F M H Step.refl (rl_d (.int _)) s k⟩
/-- len of a list that may change, whatever stands in it -/
theorem rc_len_m {l : Addr} {as : List AV} {R : KV} (e : M l = some (.lst as)) (k : R (.d (.int as.length)) M) : RC K (fun xs H Q => ∃ x n, xs = [x] ∧ LenV K x H n ∧ Q (.int n) H) [.m l] M R := fun F H xs Q rs s c => by
  obtain ⟨x, rfl, rx⟩ := rla1 rs
  have rx' : x = .ref l := rx
  subst rx'
  obtain ⟨_, vs, hv, r⟩ := s.mo _ _ e
  exact ⟨.ref l, as.length, rfl, .inl ⟨vs, .inl (.inl hv), (rlAll_len r).symm⟩, c _ _ F M H Step.refl (rl_d (.int _)) s k⟩
theorem rc_abs {i : Int} {R : KV} (k : R (.d (.int (if i < 0 then -i else i))) M) : RC K (fun xs H Q => ∃ i, xs = [.int i] ∧ Q (.int (if i < 0 then -i else i)) H) [.d (.int i)] M R := fun F H xs Q rs s c => by
  obtain ⟨x, rfl, rx⟩ := rla1 rs
  obtain rfl := dp_int rx
  exact ⟨i, rfl, c _ _ F M H Step.refl (rl_d (.int _)) s k⟩
theorem rc_int_bl {b : Bool} {R : KV} (k : R (.d (.int (if b then 1 else 0))) M) : RC K (fun xs H Q => (∃ i, xs = [.int i] ∧ Q (.int i) H) ∨ ∃ k, xs = [.bl k] ∧ Q (.int (if k then 1 else 0)) H) [.d (.bool b)] M R := fun F H xs Q rs s c => by
  obtain ⟨x, rfl, rx⟩ := rla1 rs
  obtain rfl := dp_bl rx
  exact .inr ⟨b, rfl, c _ _ F M H Step.refl (rl_d (.int _)) s k⟩
theorem rc_max2 {i j : Int} {R : KV} (k : R (.d (.int (if j > i then j else i))) M) : RC K (fun xs H Q => ∃ i j, xs = [.int i, .int j] ∧ Q (.int (if j > i then j else i)) H) [.d (.int i), .d (.int j)] M R := fun F H xs Q rs s c => by
  obtain ⟨x, y, rfl, rx, ry⟩ := rla2 rs
  obtain rfl := dp_int rx
  obtain rfl := dp_int ry
  exact ⟨i, j, rfl, c _ _ F M H Step.refl (rl_d (.int _)) s k⟩
theorem rc_min2 {i j : Int} {R : KV} (k : R (.d (.int (if j < i then j else i))) M) : RC K (fun xs H Q => ∃ i j, xs = [.int i, .int j] ∧ Q (.int (if j < i then j else i)) H) [.d (.int i), .d (.int j)] M R := fun F H xs Q rs s c => by
  obtain ⟨x, y, rfl, rx, ry⟩ := rla2 rs
  obtain rfl := dp_int rx
  obtain rfl := dp_int ry
  exact ⟨i, j, rfl, c _ _ F M H Step.refl (rl_d (.int _)) s k⟩
theorem rc_str_int {i : Int} {R : KV} (hi : i.natAbs.log2 < 1920) (k : R (.d (.str (toString i))) M) : RC K (fun xs H Q => ∃ i, xs = [.int i] ∧ i.natAbs.log2 < 1920 ∧ Q (.str (toString i)) H) [.d (.int i)] M R := fun F H xs Q rs s c => by
  obtain ⟨x, rfl, rx⟩ := rla1 rs
  obtain rfl := dp_int rx
  exact ⟨i, rfl, hi, c _ _ F M H Step.refl (rl_d (.str _)) s k⟩
theorem dpAll_bls : ∀ {bs : List Bool} {vs : List V}, DtAll K F vs (bs.map PyData.bool) → vs = bs.map V.bl
  | [], _, .nil => rfl
  | _ :: _, _, .cons h r => by rw [dp_bl h, dpAll_bls r]; rfl
theorem dpAll_ints : ∀ {ns : List Int} {vs : List V}, DtAll K F vs (ns.map PyData.int) → vs = ns.map V.int
  | [], _, .nil => rfl
  | _ :: _, _, .cons h r => by rw [dp_int h, dpAll_ints r]; rfl
theorem dpAll_strs : ∀ {ns : List Str} {vs : List V}, DtAll K F vs (ns.map PyData.str) → vs = ns.map V.str
  | [], _, .nil => rfl
  | _ :: _, _, .cons h r => by rw [dp_str h, dpAll_strs r]; rfl
theorem dtAll_ints : ∀ (ns : List Int), DtAll K F (ns.map V.int) (ns.map PyData.int)
  | [] => .nil
  | _ :: r => .cons (.int _) (dtAll_ints r)
theorem rc_all {a : AV} {bs : List Bool} {R : KV} (ha : Rda M a (.list (bs.map PyData.bool))) (k : R (.d (.bool (bs.all id))) M) : RC K (rAll K) [a] M R := fun F H xs Q rs s c => by
  obtain ⟨x, rfl, rx⟩ := rla1 rs
  obtain ⟨p, ys, rfl, hp, r⟩ := ha.lst rx s
  rw [dpAll_bls r] at hp
  exact ⟨p, bs, rfl, .inl (.inl hp), c _ _ F M H Step.refl (rl_d (.bl _)) s k⟩
theorem rc_any {a : AV} {bs : List Bool} {R : KV} (ha : Rda M a (.list (bs.map PyData.bool))) (k : R (.d (.bool (bs.any id))) M) : RC K (rAny K) [a] M R := fun F H xs Q rs s c => by
  obtain ⟨x, rfl, rx⟩ := rla1 rs
  obtain ⟨p, ys, rfl, hp, r⟩ := ha.lst rx s
  rw [dpAll_bls r] at hp
  exact ⟨p, bs, rfl, .inl (.inl hp), c _ _ F M H Step.refl (rl_d (.bl _)) s k⟩
theorem rc_sum {a : AV} {ns : List Int} {R : KV} (ha : Rda M a (.list (ns.map PyData.int))) (k : R (.d (.int ns.sum)) M) : RC K (rSum K) [a] M R := fun F H xs Q rs s c => by
  obtain ⟨x, rfl, rx⟩ := rla1 rs
  obtain ⟨p, ys, rfl, hp, r⟩ := ha.lst rx s
  rw [dpAll_ints r] at hp
  exact ⟨p, ns, rfl, .inl (.inl hp), c _ _ F M H Step.refl (rl_d (.int _)) s k⟩
/-- tuple(xs) -/
theorem ee_tupleOf {ta : TE} {R : KV} (h : EE K ta env M fun a M1 => (∃ ds, Rda M1 a (.list ds) ∧ R (.d (.tuple ds)) M1) ∨ (∃ ds, a = .d (.tuple ds) ∧ R (.d (.tuple ds)) M1)) : EE K (tThen ta (kTup K)) env M R := fun F σ H Q eo s c =>
  h F σ H _ eo s fun x a G1 M1 H1 e1 ra s1 h1 => by
    rcases h1 with ⟨ds, ha, k⟩ | ⟨ds, ea, k⟩
    · obtain ⟨p, xs, rfl, hp, r⟩ := ha.lst ra s1
      exact .inl ⟨p, xs, rfl, .inl (.inl hp), fun q hq => c _ _ (upd G1 q (.tup xs)) M1 _ (e1.trans (Step.new s1 hq)) (rl_d (.tup (.inl (.inl upd_same)) (dpAll_mono (same_new (s1.fnone hq)) r))) (s1.new hq) k⟩
    · subst ea
      obtain ⟨p, xs, rfl, hp, r⟩ := dp_tup ra
      exact .inr ⟨p, xs, rfl, sqT_mono s1.ex hp, c _ _ G1 M1 H1 e1 ra s1 k⟩

/-! ### statements -/
theorem ss_seq {t u : TS} {P : Post} (h : SS K t env M { P with nx := fun e M1 => SS K u e M1 P }) : SS K (tSeq t u) env M P := fun F σ H D eo s c =>
  h F σ H _ eo s ⟨fun σ1 e1 G1 M1 H1 s1 eo1 sp1 q => q G1 σ1 H1 D eo1 sp1 (c.later s1), c.rt, c.bk, c.ct⟩
theorem ss_next {P : Post} (h : P.nx env M) : SS K tNext env M P := fun F σ H D eo s c => c.nx σ env F M H Step.refl eo s h
theorem ss_break {P : Post} (h : P.bk env M) : SS K tBreak env M P := fun F σ H D eo s c => c.bk σ env F M H Step.refl eo s h
theorem ss_cont {P : Post} (h : P.ct env M) : SS K tCont env M P := fun F σ H D eo s c => c.ct σ env F M H Step.refl eo s h
theorem ss_drop {te : TE} {P : Post} (h : EE K te env M fun _ M1 => P.nx env M1) : SS K (tDrop te) env M P := fun F σ H D eo s c =>
  h F σ H _ eo s fun v a G1 M1 H1 e1 _ s1 q => c.nx σ env G1 M1 H1 e1 (eo.mono e1) s1 q
theorem ss_ret {te : TE} {P : Post} (h : EE K te env M P.rt) : SS K (tRet te) env M P := fun F σ H D eo s c => h F σ H _ eo s c.rt
theorem ss_retN {P : Post} (h : P.rt (.d .none) M) : SS K tRetN env M P := fun F σ H D eo s c => c.rt _ _ F M H Step.refl (rl_d .non) s h
theorem ss_if {tc : TT} {t u : TS} {P : Post} (h : ET K tc env M fun b M1 => (b = true → SS K t env M1 P) ∧ (b = false → SS K u env M1 P)) : SS K (tIfS tc t u) env M P := fun F σ H D eo s c =>
  h F σ H _ eo s fun b G1 M1 H1 e1 s1 ⟨h1, h2⟩ => by
    cases b with
    | true => exact h1 rfl G1 σ H1 D (eo.mono e1) s1 (c.later e1)
    | false => exact h2 rfl G1 σ H1 D (eo.mono e1) s1 (c.later e1)
/-- a target: what is stored where -/
def SG (K : PySem.W.Frag) (g : TG) (a : AV) (env : Env') (M : MH) (R : Env' → MH → Prop) : Prop := ∀ F v σ H Q, Rl K F v a → EnvOk K F σ env → Sep K F M H → ContS K F M H R Q → g v σ H Q
theorem ss_asg {te : TE} {g : TG} {P : Post} (h : EE K te env M fun a M1 => SG K g a env M1 P.nx) : SS K (tAsg te g) env M P := fun F σ H D eo s c =>
  h F σ H _ eo s fun v a G1 M1 H1 e1 ra s1 q => q G1 v σ H1 _ ra (eo.mono e1) s1 (c.nx.later e1)
theorem sg_name {i : Nat} {a : AV} {R : Env' → MH → Prop} (k : R (env.set i (some a)) M) : SG K (gName i) a env M R := fun F v σ H Q ra eo s c => c _ _ F M H Step.refl (EnvOk.set ra i eo) s k
/-- targets of a tuple's items -/
def SGs (K : PySem.W.Frag) (g : TGs) (as : List AV) (env : Env') (M : MH) (R : Env' → MH → Prop) : Prop := ∀ F vs σ H Q, RlAll K F vs as → EnvOk K F σ env → Sep K F M H → ContS K F M H R Q → g vs σ H Q
theorem sgs_nil {R : Env' → MH → Prop} (k : R env M) : SGs K gNil [] env M R := fun F vs σ H Q ra eo s c => by
  cases ra
  exact ⟨rfl, c _ _ F M H Step.refl eo s k⟩
theorem sgs_cons {g : TG} {gs : TGs} {a : AV} {as : List AV} {R : Env' → MH → Prop} (h : SG K g a env M fun e M1 => SGs K gs as e M1 R) : SGs K (gCons g gs) (a :: as) env M R := fun F vs σ H Q ra eo s c => by
  cases ra with
  | cons r t => exact ⟨_, _, rfl, h F _ σ H _ r eo s fun σ1 e1 G1 M1 H1 s1 eo1 sp1 q => q G1 _ σ1 H1 Q (RlAll.mono s1 t) eo1 sp1 (c.later s1)⟩
theorem sg_tup {n : Nat} {gs : TGs} {ds : List PyData} {R : Env' → MH → Prop} (hn : ds.length = n) (h : SGs K gs (ds.map AV.d) env M R) : SG K (gTup K n gs) (.d (.tuple ds)) env M R := fun F v σ H Q ra eo s c => by
  obtain ⟨p, xs, rfl, hp, r⟩ := dp_tup ra
  exact ⟨p, xs, rfl, sqT_mono s.ex hp, (dpAll_len r).trans hn, h F xs σ H Q (rlAll_d r) eo s c⟩
theorem ss_par {i j : Nat} {ta : TA} {P : Post} (h : EA K ta env M fun as M1 => ∃ a b, as = [a, b] ∧ P.nx ((env.set i (some a)).set j (some b)) M1) : SS K (tPar i j ta) env M P := fun F σ H D eo s c =>
  h F σ H _ eo s fun vs as G1 M1 H1 e1 rs s1 ⟨a, b, ea, q⟩ => by
    subst ea
    obtain ⟨x, y, rfl, rx, ry⟩ := rla2 rs
    exact ⟨x, y, rfl, c.nx _ _ G1 M1 H1 e1 (EnvOk.set ry j (EnvOk.set rx i (eo.mono e1))) s1 q⟩
/-- xs.append(e) -/
theorem ee_append {ta : TE} {te : TE} {R : KV} (h : EE K ta env M fun a M1 => ∃ l, a = .m l ∧ (∃ as, M1 l = some (.lst as)) ∧ EE K te env M1 fun b M2 => ∃ as, M2 l = some (.lst as) ∧ as.length < 100000 ∧ R (.d .none) (updM M2 l (.lst (as ++ [b])))) :
    EE K (tBM K "list" rAppend ta (tCons te tNil)) env M R := fun F σ H Q eo s c =>
  h F σ H _ eo s fun v a G1 M1 H1 e1 ra s1 ⟨l, ea, ⟨as0, m0⟩, h1⟩ => by
    subst ea
    have ra' : v = .ref l := ra
    subst ra'
    obtain ⟨_, vs0, hv0, _⟩ := s1.mo _ _ m0
    refine ⟨.inl ⟨rfl, vs0, .inl (.inl hv0)⟩, h1 G1 σ H1 _ (eo.mono e1) s1 fun y b G2 M2 H2 e2 rb s2 ⟨as, m2, hl, q⟩ => ?_⟩
    obtain ⟨_, vs, hv, rs⟩ := s2.mo _ _ m2
    refine ⟨l, vs, y, rfl, rfl, hv, Nat.lt_of_lt_of_le (by rw [rlAll_len rs]; exact hl) (by decide), ?_⟩
    exact c _ _ G2 _ _ ((e1.trans e2).trans (Step.set m2)) (rl_d .non) (s2.set m2 (mo' := .lst (as ++ [b])) ⟨_, upd_same, rlAll_app rs (.cons rb .nil)⟩) q
/-- xs[i] = e -/
theorem sg_sub {to ti : TE} {a : AV} {R : Env' → MH → Prop} (h : EE K to env M fun o M1 => ∃ l, o = .m l ∧ EE K ti env M1 fun i M2 => ∃ as k j, i = .d (.int k) ∧ M2 l = some (.lst as) ∧ ixN as.length k = some j ∧ R env (updM M2 l (.lst (as.set j a)))) :
    SG K (gSub to ti rSetL) a env M R := fun F v σ H Q ra eo s c =>
  h F σ H _ eo s fun w o G1 M1 H1 e1 ro s1 ⟨l, eo', h1⟩ => by
    subst eo'
    have ro' : w = .ref l := ro
    subst ro'
    refine h1 G1 σ H1 _ (eo.mono e1) s1 fun y i G2 M2 H2 e2 ri s2 ⟨as, k, j, ei, m2, hj, q⟩ => ?_
    subst ei
    obtain rfl := dp_int ri
    obtain ⟨_, vs, hv, rs⟩ := s2.mo _ _ m2
    refine ⟨l, vs, k, j, rfl, rfl, hv, by rw [rlAll_len rs]; exact hj, ?_⟩
    exact c _ _ G2 _ _ ((e1.trans e2).trans (Step.set m2)) (eo.mono (e1.trans e2).same) (s2.set m2 (mo' := .lst (as.set j a)) ⟨_, upd_same, rlAll_set rs (ra.mono (e1.trans e2)) j⟩) q

/-! ### dicts that may change -/
def lookA (kvs : List (Key × AV)) (k : Key) : Option AV := (kvs.find? fun kv => decide (kv.1 = k)).map (·.2)
def putA (kvs : List (Key × AV)) (k : Key) (v : AV) : List (Key × AV) :=
  if (kvs.any fun kv => decide (kv.1 = k)) = true then kvs.map (fun kv => if kv.1 = k then (kv.1, v) else kv) else kvs ++ [(k, v)]
abbrev RlK (K : PySem.W.Frag) (F : Hp) : List (Key × V) → List (Key × AV) → Prop := Paired fun (p : Key × V) (q : Key × AV) => p.1 = q.1 ∧ Rl K F p.2 q.2
theorem rlk_look {ws : List (Key × V)} {kvs : List (Key × AV)} (h : RlK K F ws kvs) {k : Key} {a : AV} (e : lookA kvs k = some a) : ∃ v, valV ws k = some v ∧ Rl K F v a := by
  induction h with
  | nil => cases e
  | @cons p q ps qs r t ih =>
    obtain ⟨r1, r2⟩ := r
    unfold lookA at e
    unfold valV
    rw [List.find?_cons] at e ⊢
    by_cases hk : q.1 = k
    · have hk' : p.1 = k := r1.trans hk
      simp only [hk, decide_true, Option.map_some] at e
      simp only [hk', decide_true, Option.map_some]
      cases e
      exact ⟨_, rfl, r2⟩
    · have hk' : ¬ p.1 = k := fun z => hk (r1.symm.trans z)
      simp only [hk, decide_false] at e
      simp only [hk', decide_false]
      exact ih e
theorem rlk_any {ws : List (Key × V)} {kvs : List (Key × AV)} (h : RlK K F ws kvs) (k : Key) : (ws.any fun kv => decide (kv.1 = k)) = (kvs.any fun kv => decide (kv.1 = k)) := by
  induction h with
  | nil => rfl
  | cons r _ ih => simp [List.any_cons, ih, r.1]
theorem rlk_put {ws : List (Key × V)} {kvs : List (Key × AV)} (h : RlK K F ws kvs) {v : V} {a : AV} (r : Rl K F v a) (k : Key) : RlK K F (putK ws k v) (putA kvs k a) := by
  unfold putK putA
  rw [rlk_any h k]
  by_cases hc : (kvs.any fun kv => decide (kv.1 = k)) = true
  · rw [if_pos hc, if_pos hc]
    clear hc
    induction h with
    | nil => exact .nil
    | @cons p q ps qs z _ ih =>
      obtain ⟨z1, z2⟩ := z
      refine .cons ?_ ih
      dsimp only
      by_cases hk : q.1 = k
      · rw [if_pos hk, if_pos (z1.trans hk)]
        exact ⟨z1, r⟩
      · rw [if_neg hk, if_neg (fun y => hk (z1.symm.trans y))]
        exact ⟨z1, z2⟩
  · rw [if_neg hc, if_neg hc]
    clear hc
    induction h with
    | nil => exact .cons ⟨rfl, r⟩ .nil
    | cons z _ ih => exact .cons z ih
theorem ee_dget {td ty : TE} {R : KV} (h : EE K td env M fun a M1 => ∃ l, a = .m l ∧ EE K ty env M1 fun b M2 => ∃ kvs x c, b = .d (.str x) ∧ M2 l = some (.dct kvs) ∧ lookA kvs (.inr x) = some c ∧ R c M2) : EE K (tDGet td ty) env M R := fun F σ H Q eo s c =>
  h F σ H _ eo s fun v a G1 M1 H1 e1 ra s1 ⟨l, ea, h1⟩ => by
    subst ea
    have ra' : v = .ref l := ra
    subst ra'
    refine h1 G1 σ H1 _ (eo.mono e1) s1 fun y b G2 M2 H2 e2 rb s2 ⟨kvs, x, d, eb, m2, hl, q⟩ => ?_
    subst eb
    obtain rfl := dp_str rb
    obtain ⟨_, ws, hw, rs⟩ := s2.mo _ _ m2
    obtain ⟨w, h3, h4⟩ := rlk_look rs hl
    refine ⟨l, w, rfl, ?_, c _ _ G2 M2 H2 (e1.trans e2) h4 s2 q⟩
    rw [← h3]
    exact DGet.k (k := Sum.inr x) hw
theorem ss_dput {td ty tv : TE} {P : Post} (h : EE K tv env M fun c M1 => EE K td env M1 fun a M2 => ∃ l, a = .m l ∧ EE K ty env M2 fun b M3 => ∃ kvs x, b = .d (.str x) ∧ M3 l = some (.dct kvs) ∧ kvs.length < 1000 ∧ P.nx env (updM M3 l (.dct (putA kvs (.inr x) c)))) : SS K (sDPut td ty tv) env M P := fun F σ H D eo s c =>
  h F σ H _ eo s fun v cc G1 M1 H1 e1 rc s1 h1 => h1 G1 σ H1 _ (eo.mono e1) s1 fun w a G2 M2 H2 e2 ra s2 ⟨l, ea, h2⟩ => by
    subst ea
    have ra' : w = .ref l := ra
    subst ra'
    refine h2 G2 σ H2 _ (eo.mono (e1.trans e2)) s2 fun y b G3 M3 H3 e3 rb s3 ⟨kvs, x, eb, m3, hl, q⟩ => ?_
    subst eb
    obtain rfl := dp_str rb
    obtain ⟨_, ws, hw, rs⟩ := s3.mo _ _ m3
    refine ⟨l, _, rfl, DPut.k (k := Sum.inr x) hw (Nat.lt_of_lt_of_le (by rw [paired_len rs]; exact hl) (by decide)), ?_⟩
    exact c.nx _ _ G3 _ _ (((e1.trans e2).trans e3).trans (Step.set m3)) (eo.mono ((e1.trans e2).trans e3).same) (s3.set m3 (mo' := .dct (putA kvs (.inr x) cc)) ⟨_, upd_same, rlk_put rs (rc.mono (e2.trans e3)) _⟩) q
end DL

set_option Elab.async false
set_option linter.all false
set_option maxRecDepth 100000
set_option maxHeartbeats 4000000
namespace DL
open PySem PySem.Spec PyProof.Rows L2
variable {K : PySem.W.Frag} {F G H : Hp} {M : MH} {σ : L2.St} {env : Env'}

/-! ### a def: what it does to data -/
/-- arguments and what may change, ahead; what is wanted of the answer and of what may change, behind -/
abbrev SpD := List AV → MH → KV → Prop
/-- the def's promise in the layer's form (it raises nothing) -/
def toSp (K : PySem.W.Frag) (n : Nat) (S : SpD) : Sp := fun vs H Q _ => vs.length = n ∧ ∃ F M as R, RlAll K F vs as ∧ Sep K F M H ∧ S as M R ∧ Cont K F M H R Q
theorem ee_call {n : Nat} {S : SpD} {E : XK} {ta : TA} {R : KV} (h : EA K ta env M fun as M1 => as.length = n ∧ S as M1 R) : EE K (tCall (toSp K n S) [] E ta) env M R := fun F σ H Q eo s c =>
  h F σ H _ eo s fun vs as G1 M1 H1 e1 rs s1 ⟨hn, h1⟩ => by
    show toSp K n S (vs ++ []) H1 Q E
    rw [List.append_nil]
    exact ⟨(rlAll_len rs).trans hn, G1, M1, as, R, rs, s1, h1, c.later e1⟩
theorem ee_callK {n : Nat} {S : SpD} {E : XK} {gV : List V → List V → List V} {gA : List AV → List AV → List AV} {ta tk : TA} {R : KV} (hg : ∀ F vs zs as bs, RlAll K F vs as → RlAll K F zs bs → RlAll K F (gV vs zs) (gA as bs))
    (h : EA K ta env M fun as M1 => EA K tk env M1 fun bs M2 => (gA as bs).length = n ∧ S (gA as bs) M2 R) : EE K (tCallK (toSp K n S) gV E ta tk) env M R := fun F σ H Q eo s c =>
  h F σ H _ eo s fun vs as G1 M1 H1 e1 rs s1 h1 => h1 G1 σ H1 _ (eo.mono e1) s1 fun zs bs G2 M2 H2 e2 rs2 s2 ⟨hn, h2⟩ => by
    have r := hg G2 vs zs as bs (RlAll.mono e2 rs) rs2
    exact ⟨(rlAll_len r).trans hn, G2, M2, gA as bs, R, r, s2, h2, c.later (e1.trans e2)⟩
/-- what is handed out: less may be told of what may change; a list may be taken as data from now on -/
inductive Out : AV → MH → AV → MH → Prop
  | sub {a : AV} {M M' : MH} : SubM M' M → Out a M a M'
  | frz {l : Addr} {ds : List PyData} {M M' : MH} : M l = some (.lst (ds.map AV.d)) → SubM M' (dropM M l) → Out (.m l) M (.d (.list ds)) M'
theorem Cont.out {R : KV} {Q : VK} (c : Cont K F M H R Q) : Cont K F M H (fun a M1 => ∃ a' M', Out a M1 a' M' ∧ R a' M') Q := fun v a G1 M1 H1 e1 ra s1 ⟨a', M', o, q⟩ => by
  cases o with
  | sub h => exact c v a G1 M' H1 (e1.trans (Step.sub h)) ra (s1.sub h) q
  | frz e h =>
    obtain ⟨G2, ⟨e2, en⟩, d, s2⟩ := s1.freeze e
    have ra' : v = .ref _ := ra
    subst ra'
    exact c _ _ G2 M' H1 (e1.trans ⟨e2, fun b u z m => ⟨z, h.none (by unfold dropM; split; rfl; exact m), en b (fun y => by rw [y, e] at m; cases m)⟩⟩) (rl_d d) (s2.sub h) q
/-- the def's rule -/
theorem def_ok {P : Program} {w : World} {mg : Str → Option Value} {base : Heap} {x qual : Str} {st : Stmt} {f : Addr} {fd : FuncData} {N ps : List Str} {k : Nat} {S : SpD} (Fn : Fun K x qual st f fd) (sc : FnScope N ps (defScope st))
    (hbody : ∀ (cdv : Value) (A : Around) (outer : List Env) (s : Shared) (H : Hp) (E : XK), Room k (A.deeper (envOfC qual (defScope st) s.heap.objs.size f cdv)) →
      ∃ t, PSs (cxOf CX0 P w K mg base N qual (defScope st) f cdv A outer s H E).nox (defBody st) t ∧
        ∀ as M R, as.length = ps.length → S as M R → SS K t (as.map some ++ List.replicate (N.length - ps.length) none) M
          { nx := fun _ M1 => ∃ M', SubM M' M1 ∧ R (.d .none) M', rt := fun a M1 => ∃ a' M', Out a M1 a' M' ∧ R a' M' }) :
    FnOk P w K mg base CX0 (k + 1) f fd ps (toSp K ps.length S) := by
  refine Fn.ok sc (fun vs H Q E h => h.1) (fun cdv A outer s H vs Q E hr h => ?_)
  obtain ⟨hl, F, M, as, R, ra, sp, hS, c⟩ := h
  obtain ⟨t, ht, hq⟩ := hbody cdv A outer s H E hr
  refine ⟨t, ht, ?_⟩
  have hla : as.length = ps.length := (rlAll_len ra).symm.trans hl
  have hst : L2.start N vs = vs.map some ++ List.replicate (N.length - ps.length) none := by unfold L2.start; rw [hl]
  rw [hst]
  refine hq as M R hla hS F _ H _ (envOk_start ra _) sp ⟨?_, c.out, ?_, ?_⟩
  · intro σ1 e1 G1 M1 H1 s1 _ sp1 ⟨M', hs, q⟩
    exact c _ _ G1 M' H1 (s1.trans (Step.sub hs)) (rl_d .non) (sp1.sub hs) q
  · intro _ _ _ _ _ _ _ _ q; exact q.elim
  · intro _ _ _ _ _ _ _ _ q; exact q.elim

/-! ### loops -/
theorem dtAll_at {vs : List V} {ds : List PyData} {i : Nat} {v : V} (h : DtAll K F vs ds) (e : vs[i]? = some v) : ∃ x, ds[i]? = some x ∧ Dt K F v x := by
  induction ds generalizing vs i with
  | nil => cases h; simp at e
  | cons d ds ih =>
    cases h with
    | cons r t =>
      cases i with
      | zero => simp at e; subst e; exact ⟨_, rfl, r⟩
      | succ i =>
        obtain ⟨x, h1, h2⟩ := ih (i := i) t (by simpa using e)
        exact ⟨x, by simpa using h1, h2⟩
/-- a word between the turns: told of the frame and of what may change -/
abbrev Wd := Nat → Env' → MH → Prop
/-- the word, over the heap that was there when the loop began -/
def Pvw (K : PySem.W.Frag) (F : Hp) (M0 : MH) (H0 : Hp) (W : Wd) (i : Nat) (σ : L2.St) (H : Hp) : Prop := ∃ G env M, Step F M0 H0 G M H ∧ EnvOk K G σ env ∧ Sep K G M H ∧ W i env M
theorem pvw_cont {W : Wd} {i : Nat} {G H1 : Hp} {M1 : MH} (e : Step F M H G M1 H1) : ContS K G M1 H1 (W i) (Pvw K F M H W i) := fun σ env G' M' H' s eo sp q => ⟨G', env, M', e.trans s, eo, sp, q⟩
theorem ss_forR1 {ta : TA} {g : TG} {tb : TS} {P : Post} (h : EA K ta env M fun as M1 => ∃ n, as = [.d (.int n)] ∧ -(2 ^ 62) ≤ n ∧ n < 2 ^ 62 ∧ ∃ W : Wd, W 0 env M1 ∧
      (∀ (i : Nat) e2 M2, (i : Int) < n → W i e2 M2 → SG K g (.d (.int i)) e2 M2 fun e3 M3 => SS K tb e3 M3 { P with nx := W (i + 1), ct := W (i + 1), bk := P.nx }) ∧ (∀ e2 M2, W n.toNat e2 M2 → P.nx e2 M2)) :
    SS K (tFor (iRng1 ta) g tb) env M P := fun F σ H D eo s c =>
  h F σ H _ eo s fun vs as G1 M1 H1 e1 rs s1 ⟨n, ea, l1, l2, W, w0, ws, wd⟩ => by
    subst ea
    obtain ⟨x, rfl, rx⟩ := rla1 rs
    obtain rfl := dp_int rx
    refine ⟨n, rfl, l1, l2, for_range (lo := 0) (n := n.toNat) (Pvw K G1 M1 H1 W) ⟨G1, env, M1, Step.refl, eo.mono e1, s1, w0⟩ ?_ ?_⟩
    · rintro i σ2 H2 hi ⟨G2, e2, M2, s2, eo2, sp2, w2⟩
      have ei : (0 : Int) + (i : Int) = (i : Int) := Int.zero_add _
      rw [ei]
      refine ws i e2 M2 (by omega) w2 G2 _ σ2 H2 _ (rl_d (.int _)) eo2 sp2 fun σ3 e3 G3 M3 H3 s3 eo3 sp3 q => q G3 σ3 H3 _ eo3 sp3 ?_
      exact ⟨pvw_cont (s2.trans s3), c.rt.later (e1.trans (s2.trans s3)), c.nx.later (e1.trans (s2.trans s3)), pvw_cont (s2.trans s3)⟩
    · rintro σ2 H2 ⟨G2, e2, M2, s2, eo2, sp2, w2⟩
      exact c.nx _ _ G2 M2 H2 (e1.trans s2) eo2 sp2 (wd e2 M2 w2)
theorem ss_forR2 {ta : TA} {g : TG} {tb : TS} {P : Post} (h : EA K ta env M fun as M1 => ∃ lo n, as = [.d (.int lo), .d (.int n)] ∧ (-(2 ^ 62) ≤ lo ∧ lo < 2 ^ 62 ∧ -(2 ^ 62) ≤ n ∧ n < 2 ^ 62) ∧ ∃ W : Wd, W 0 env M1 ∧
      (∀ (i : Nat) e2 M2, lo + (i : Int) < n → W i e2 M2 → SG K g (.d (.int (lo + i))) e2 M2 fun e3 M3 => SS K tb e3 M3 { P with nx := W (i + 1), ct := W (i + 1), bk := P.nx }) ∧ (∀ e2 M2, W (n - lo).toNat e2 M2 → P.nx e2 M2)) :
    SS K (tFor (iRng2 ta) g tb) env M P := fun F σ H D eo s c =>
  h F σ H _ eo s fun vs as G1 M1 H1 e1 rs s1 ⟨lo, n, ea, l1, W, w0, ws, wd⟩ => by
    subst ea
    obtain ⟨x, y, rfl, rx, ry⟩ := rla2 rs
    obtain rfl := dp_int rx
    obtain rfl := dp_int ry
    refine ⟨lo, n, rfl, l1, for_range (lo := lo) (n := (n - lo).toNat) (Pvw K G1 M1 H1 W) ⟨G1, env, M1, Step.refl, eo.mono e1, s1, w0⟩ ?_ ?_⟩
    · rintro i σ2 H2 hi ⟨G2, e2, M2, s2, eo2, sp2, w2⟩
      refine ws i e2 M2 (by omega) w2 G2 _ σ2 H2 _ (rl_d (.int _)) eo2 sp2 fun σ3 e3 G3 M3 H3 s3 eo3 sp3 q => q G3 σ3 H3 _ eo3 sp3 ?_
      exact ⟨pvw_cont (s2.trans s3), c.rt.later (e1.trans (s2.trans s3)), c.nx.later (e1.trans (s2.trans s3)), pvw_cont (s2.trans s3)⟩
    · rintro σ2 H2 ⟨G2, e2, M2, s2, eo2, sp2, w2⟩
      exact c.nx _ _ G2 M2 H2 (e1.trans s2) eo2 sp2 (wd e2 M2 w2)
/-- over a list of data that stands still -/
theorem ss_forL {tl : TE} {g : TG} {tb : TS} {P : Post} (h : EE K tl env M fun a M1 => ∃ ds, a = .d (.list ds) ∧ ∃ W : Wd, W 0 env M1 ∧
      (∀ (i : Nat) x e2 M2, ds[i]? = some x → W i e2 M2 → SG K g (.d x) e2 M2 fun e3 M3 => SS K tb e3 M3 { P with nx := W (i + 1), ct := W (i + 1), bk := P.nx }) ∧ (∀ e2 M2, W ds.length e2 M2 → P.nx e2 M2)) :
    SS K (tFor (iList K tl) g tb) env M P := fun F σ H D eo s c =>
  h F σ H _ eo s fun v a G1 M1 H1 e1 ra s1 ⟨ds, ea, W, w0, ws, wd⟩ => by
    subst ea
    obtain ⟨p, xs, rfl, hp, r⟩ := dp_lst ra
    have hq : ∀ {G2 H2 M2}, Same G1 G2 → Sep K G2 M2 H2 → SqL K H2 p xs := fun e2 s2 => .inl (.inl (s2.ex _ _ (e2 _ _ hp)))
    refine ⟨p, rfl, ⟨xs, hq (Same.refl _) s1⟩, for_list (xs := xs) (Pvw K G1 M1 H1 W) ⟨G1, env, M1, Step.refl, eo.mono e1, s1, w0⟩ ?_ ?_ ?_⟩
    · rintro i σ2 H2 _ ⟨G2, e2, M2, s2, eo2, sp2, w2⟩
      exact hq s2.same sp2
    · rintro i x σ2 H2 hi ⟨G2, e2, M2, s2, eo2, sp2, w2⟩
      obtain ⟨y, h1, h2⟩ := dtAll_at r hi
      refine ws i y e2 M2 h1 w2 G2 _ σ2 H2 _ (rl_d (dp_mono s2 h2)) eo2 sp2 fun σ3 e3 G3 M3 H3 s3 eo3 sp3 q => q G3 σ3 H3 _ eo3 sp3 ?_
      exact ⟨pvw_cont (s2.trans s3), c.rt.later (e1.trans (s2.trans s3)), c.nx.later (e1.trans (s2.trans s3)), pvw_cont (s2.trans s3)⟩
    · rintro σ2 H2 ⟨G2, e2, M2, s2, eo2, sp2, w2⟩
      rw [dpAll_len r] at w2
      exact c.nx _ _ G2 M2 H2 (e1.trans s2) eo2 sp2 (wd e2 M2 w2)
theorem ss_forT {tl : TE} {g : TG} {tb : TS} {P : Post} (h : EE K tl env M fun a M1 => ∃ ds, a = .d (.tuple ds) ∧ ∃ W : Wd, W 0 env M1 ∧
      (∀ (i : Nat) x e2 M2, ds[i]? = some x → W i e2 M2 → SG K g (.d x) e2 M2 fun e3 M3 => SS K tb e3 M3 { P with nx := W (i + 1), ct := W (i + 1), bk := P.nx }) ∧ (∀ e2 M2, W ds.length e2 M2 → P.nx e2 M2)) :
    SS K (tFor (iTup K tl) g tb) env M P := fun F σ H D eo s c =>
  h F σ H _ eo s fun v a G1 M1 H1 e1 ra s1 ⟨ds, ea, W, w0, ws, wd⟩ => by
    subst ea
    obtain ⟨p, xs, rfl, hp, r⟩ := dp_tup ra
    have hq : ∀ {G2 H2 M2}, Same G1 G2 → Sep K G2 M2 H2 → SqT K H2 p xs := fun e2 s2 => sqT_mono s2.ex (sqT_mono e2 hp)
    refine ⟨p, rfl, ⟨xs, hq (Same.refl _) s1⟩, for_tup (xs := xs) (Pvw K G1 M1 H1 W) ⟨G1, env, M1, Step.refl, eo.mono e1, s1, w0⟩ ?_ ?_ ?_⟩
    · rintro i σ2 H2 _ ⟨G2, e2, M2, s2, eo2, sp2, w2⟩
      exact hq s2.same sp2
    · rintro i x σ2 H2 hi ⟨G2, e2, M2, s2, eo2, sp2, w2⟩
      obtain ⟨y, h1, h2⟩ := dtAll_at r hi
      refine ws i y e2 M2 h1 w2 G2 _ σ2 H2 _ (rl_d (dp_mono s2 h2)) eo2 sp2 fun σ3 e3 G3 M3 H3 s3 eo3 sp3 q => q G3 σ3 H3 _ eo3 sp3 ?_
      exact ⟨pvw_cont (s2.trans s3), c.rt.later (e1.trans (s2.trans s3)), c.nx.later (e1.trans (s2.trans s3)), pvw_cont (s2.trans s3)⟩
    · rintro σ2 H2 ⟨G2, e2, M2, s2, eo2, sp2, w2⟩
      rw [dpAll_len r] at w2
      exact c.nx _ _ G2 M2 H2 (e1.trans s2) eo2 sp2 (wd e2 M2 w2)
theorem ss_while {tc : TT} {tb : TS} {P : Post} (W : Wd) (m0 : Nat) (w0 : W m0 env M)
    (ws : ∀ m e2 M2, W m e2 M2 → ET K tc e2 M2 fun b M3 => (b = true → SS K tb e2 M3 { P with nx := fun e M => ∃ m', m' < m ∧ W m' e M, ct := fun e M => ∃ m', m' < m ∧ W m' e M, bk := P.nx }) ∧ (b = false → P.nx e2 M3)) :
    SS K (tWhile tc tb) env M P := fun F σ H D eo s c => by
  refine ⟨Pvw K F M H W, ⟨m0, F, env, M, Step.refl, eo, s, w0⟩, ?_⟩
  rintro m σ2 H2 ⟨G2, e2, M2, s2, eo2, sp2, w2⟩
  refine ws m e2 M2 w2 G2 σ2 H2 _ eo2 sp2 fun b G3 M3 H3 e3 sp3 ⟨h1, h2⟩ => ?_
  cases b with
  | true =>
    rw [if_pos rfl]
    refine ⟨fun σ' H' => ∃ m', m' < m ∧ Pvw K F M H W m' σ' H', fun _ _ q => q, h1 rfl G3 σ2 H3 _ (eo2.mono e3) sp3 ?_⟩
    have k : ContS K G3 M3 H3 (fun e M => ∃ m', m' < m ∧ W m' e M) (fun σ' H' => ∃ m', m' < m ∧ Pvw K F M H W m' σ' H') := fun σ' env' G' M' H' s' eo' sp' ⟨m', lt, q⟩ => ⟨m', lt, G', env', M', (s2.trans e3).trans s', eo', sp', q⟩
    exact ⟨k, c.rt.later (s2.trans e3), c.nx.later (s2.trans e3), k⟩
  | false =>
    rw [if_neg Bool.false_ne_true]
    exact c.nx _ _ G3 M3 H3 (s2.trans e3) (eo2.mono e3) sp3 (h2 rfl)
end DL

set_option Elab.async false
set_option linter.all false
set_option maxRecDepth 100000
set_option maxHeartbeats 4000000
namespace DL
open PySem L2
variable {K : PySem.W.Frag} {F G H : Hp} {M : MH} {σ : L2.St} {env : Env'}

/-! ### comprehensions -/
def wipeE (env : Env') : List Nat → Env'
  | [] => env
  | v :: vs => (wipeE env vs).set v none
theorem EnvOk.unset : ∀ {σ : L2.St} {env : Env'} (i : Nat), EnvOk K F σ env → EnvOk K F (σ.set i none) (env.set i none)
  | _, _, _, .nil => .nil
  | _, _, 0, .cons _ t => .cons (fun b hb => nomatch hb) t
  | _, _, i + 1, .cons h t => .cons h (EnvOk.unset i t)
theorem EnvOk.wipe (h : EnvOk K F σ env) : ∀ vs, EnvOk K F (wipe σ vs) (wipeE env vs)
  | [] => h
  | v :: vs => EnvOk.unset v (EnvOk.wipe h vs)
theorem set_set_none {α : Type} (xs : List (Option α)) (j v : Nat) (x : Option α) : (xs.set j x).set v none = if v = j then xs.set v none else (xs.set v none).set j x := by
  by_cases h : v = j
  · subst h; simp
  · rw [if_neg h, List.set_comm _ _ (fun e => h e.symm)]
theorem wipe_set {j : Nat} {x : Option V} : ∀ {vs : List Nat} {σ : L2.St}, j ∈ vs → wipe (σ.set j x) vs = wipe σ vs
  | v :: vs, σ, h => by
    have key : ∀ (vs : List Nat) (σ : L2.St), wipe (σ.set j x) vs = wipe σ vs ∨ wipe (σ.set j x) vs = (wipe σ vs).set j x := by
      intro vs
      induction vs with
      | nil => intro σ; exact .inr rfl
      | cons u us ih =>
        intro σ
        rcases ih σ with e | e
        · left; unfold wipe; rw [e]
        · unfold wipe; rw [e, set_set_none]
          by_cases hu : u = j
          · left; rw [if_pos hu]
          · right; rw [if_neg hu]
    by_cases hj : j ∈ vs
    · unfold wipe; rw [wipe_set hj]
    · have e : v = j := by
        rcases List.mem_cons.mp h with z | z
        · exact z.symm
        · exact absurd z hj
      rcases key vs σ with q | q
      · unfold wipe; rw [q]
      · unfold wipe; rw [q, set_set_none, if_pos e]
theorem wipe_wipe (vs : List Nat) : ∀ σ : L2.St, wipe (wipe σ vs) vs = wipe σ vs := by
  have key : ∀ (us : List Nat) (σ : L2.St), (∀ u ∈ us, u ∈ vs) → wipe (wipe σ us) vs = wipe σ vs := by
    intro us
    induction us with
    | nil => intro σ _; rfl
    | cons u us ih =>
      intro σ hu
      show wipe ((wipe σ us).set u none) vs = wipe σ vs
      rw [wipe_set (hu u (List.mem_cons_self ..)), ih σ fun w hw => hu w (List.mem_cons_of_mem _ hw)]
  exact fun σ => key vs σ fun _ h => h
/-- the target stores only what the comprehension owns -/
def Only (g : TG) (vs : List Nat) : Prop := ∀ v σ H Q, g v σ H Q → g v σ H fun σ2 H2 => wipe σ2 vs = wipe σ vs ∧ Q σ2 H2
def Onlys (g : TGs) (vs : List Nat) : Prop := ∀ us σ H Q, g us σ H Q → g us σ H fun σ2 H2 => wipe σ2 vs = wipe σ vs ∧ Q σ2 H2
theorem only_name {j : Nat} {vs : List Nat} (h : j ∈ vs) : Only (gName j) vs := fun v σ H Q q => ⟨wipe_set h, q⟩
theorem onlys_nil {vs : List Nat} : Onlys gNil vs := fun us σ H Q ⟨e, q⟩ => ⟨e, rfl, q⟩
theorem onlys_name {j : Nat} {vs : List Nat} {gs : TGs} (h : j ∈ vs) (h' : Onlys gs vs) : Onlys (gCons (gName j) gs) vs := fun us σ H Q ⟨v, r, e, q⟩ => by
  refine ⟨v, r, e, ?_⟩
  have z := h' r (σ.set j (some v)) H Q q
  show gs r (σ.set j (some v)) H _
  rw [show wipe σ vs = wipe (σ.set j (some v)) vs from (wipe_set h).symm]
  exact z
theorem only_tup {n : Nat} {vs : List Nat} {gs : TGs} (h : Onlys gs vs) : Only (gTup K n gs) vs := fun v σ H Q ⟨a, xs, e, sq, l, q⟩ => ⟨a, xs, e, sq, l, h xs σ H Q q⟩

theorem Sep.other {D : Addr} {o : HO} (s : Sep K F M H) (h1 : F D = none) (h2 : M D = none) : Sep K F M (upd H D o) where
  ex := fun b u e => by rw [upd_ne (ne_of_none e h1)]; exact s.ex b u e
  mo := fun l u e => by
    have hl : l ≠ D := fun z => by rw [z, h2] at e; cases e
    obtain ⟨q1, q2⟩ := s.mo l u e
    exact ⟨q1, q2.stay (Same.refl F) fun v q => by rw [upd_ne hl]; exact q⟩
abbrev WdC := Nat → List AV → MH → Prop
def PvC (K : PySem.W.Frag) (F0 : Hp) (M0 : MH) (H0 : Hp) (D : Addr) (W : WdC) (i : Nat) (H : Hp) : Prop :=
  ∃ G M acc av, Step F0 M0 H0 G M H ∧ Sep K G M H ∧ H D = some (.lst av) ∧ RlAll K G av acc ∧ M D = none ∧ G D = none ∧ acc.length ≤ i ∧ W i acc M
/-- what a turn must do -/
def TurnC (K : PySem.W.Frag) (g : TG) (tt : TT) (te : TE) (env : Env') (W : WdC) (i : Nat) (a : AV) : Prop :=
  ∀ acc M2, acc.length ≤ i → W i acc M2 → SG K g a env M2 fun e3 M3 => ET K tt e3 M3 fun b M4 => (b = true → EE K te e3 M4 fun y M5 => W (i + 1) (acc ++ [y]) M5) ∧ (b = false → W (i + 1) acc M4)
theorem pvc_turn {F0 H0 : Hp} {M0 : MH} {D : Addr} {W : WdC} {i : Nat} {g : TG} {tt : TT} {te : TE} {vs : List Nat} {v : V} {a : AV} (hi : i < 100000) (hv : Only g vs) (eo : EnvOk K F0 σ env) (hD : H0 D = none) (ra : ∀ G, Same F0 G → Rl K G v a) (t : TurnC K g tt te (wipeE env vs) W i a) (p : PvC K F0 M0 H0 D W i H) :
    g v (wipe σ vs) H fun σ2 H2 => wipe σ2 vs = wipe σ vs ∧ tt σ2 H2 fun b H3 => if b = true then te σ2 H3 fun y H4 => ∃ acc, H4 D = some (.lst acc) ∧ acc.length < sizeLine ∧ PvC K F0 M0 H0 D W (i + 1) (upd H4 D (.lst (acc ++ [y]))) else PvC K F0 M0 H0 D W (i + 1) H3 := by
  obtain ⟨G, M, acc, av, st, sp, hd, rl, md, gd, la, w⟩ := p
  have eo' := (eo.mono st.same).wipe vs
  have z := t acc M la w G v (wipe σ vs) H (fun σ2 H2 => tt σ2 H2 fun b H3 => if b = true then te σ2 H3 fun y H4 => ∃ acc, H4 D = some (.lst acc) ∧ acc.length < sizeLine ∧ PvC K F0 M0 H0 D W (i + 1) (upd H4 D (.lst (acc ++ [y]))) else PvC K F0 M0 H0 D W (i + 1) H3) (ra G st.same) eo' sp ?_
  · have z2 := hv v (wipe σ vs) H _ z
    rw [wipe_wipe] at z2
    exact z2
  · intro σ3 e3 G3 M3 H3 s3 eo3 sp3 q
    refine q G3 σ3 H3 _ eo3 sp3 fun b G4 M4 H4 s4 sp4 ⟨h1, h2⟩ => ?_
    cases b with
    | true =>
      rw [if_pos rfl]
      refine h1 rfl G4 σ3 H4 _ (eo3.mono s4.same) sp4 fun y ya G5 M5 H5 s5 ry sp5 w5 => ?_
      have s35 := (s3.trans s4).trans s5
      obtain ⟨hd5, md5, gd5⟩ := s35.fr D _ hd md
      refine ⟨av, hd5, Nat.lt_of_lt_of_le (Nat.lt_of_le_of_lt (by rw [rlAll_len rl]; exact la) hi) (by decide), G5, M5, acc ++ [ya], av ++ [y], ?_, ?_, upd_same, rlAll_app (RlAll.mono s35.same rl) (.cons ry .nil), md5, gd5 gd, by simp; exact la, w5⟩
      · refine ⟨(st.trans s35).same, fun b o e m => ?_⟩
        obtain ⟨q1, q2, q3⟩ := (st.trans s35).fr b o e m
        exact ⟨by rw [upd_ne (ne_of_none e hD)]; exact q1, q2, q3⟩
      · exact sp5.other (gd5 gd) md5
    | false =>
      rw [if_neg Bool.false_ne_true]
      have s34 := s3.trans s4
      obtain ⟨hd4, md4, gd4⟩ := s34.fr D _ hd md
      exact ⟨G4, M4, acc, av, st.trans s34, sp4, hd4, RlAll.mono s34.same rl, md4, gd4 gd, by omega, h2 rfl⟩
/-- what becomes of the list: data, or a list that may change -/
def EndC (R : KV) (acc : List AV) (M : MH) : Prop := (∃ ds, acc = ds.map AV.d ∧ R (.d (.list ds)) M) ∨ (∀ l, M l = none → R (.m l) (updM M l (.lst acc)))
theorem pvc_end {F0 H0 : Hp} {M0 : MH} {D : Addr} {W : WdC} {n : Nat} {R : KV} {Q : VK} (hD : H0 D = none) (c : Cont K F0 M0 H0 R Q) (e : ∀ acc M2, acc.length ≤ n → W n acc M2 → EndC R acc M2) (p : PvC K F0 M0 H0 D W n H) : Q (.ref D) H := by
  obtain ⟨G, M, acc, av, st, sp, hd, rl, md, gd, la, w⟩ := p
  rcases e acc M la w with ⟨ds, ea, q⟩ | q
  · subst ea
    refine c _ _ (upd G D (.lst av)) M H ?_ (rl_d (.lst upd_same (dpAll_mono (same_new gd) (rlAll_dp rl)))) ?_ q
    · refine ⟨st.same.trans (same_new gd), fun b o z m => ?_⟩
      obtain ⟨q1, q2, q3⟩ := st.fr b o z m
      exact ⟨q1, q2, fun y => by rw [upd_ne (ne_of_none z hD)]; exact q3 y⟩
    · refine ⟨fun b u z => ?_, fun l u z => ?_⟩
      · by_cases hb : b = D
        · subst hb; rw [upd_same] at z; cases z; exact hd
        · rw [upd_ne hb] at z; exact sp.ex b u z
      · have hl : l ≠ D := fun y => by rw [y, md] at z; cases z
        obtain ⟨q1, q2⟩ := sp.mo l u z
        exact ⟨by rw [upd_ne hl]; exact q1, q2.stay (same_new gd) fun v y => y⟩
  · refine c _ _ G (updM M D (.lst acc)) H ?_ rl_m ?_ (q D md)
    · refine ⟨st.same, fun b o z m => ?_⟩
      obtain ⟨q1, q2, q3⟩ := st.fr b o z m
      exact ⟨q1, by rw [updM_ne (ne_of_none z hD)]; exact q2, q3⟩
    · refine ⟨sp.ex, fun l u z => ?_⟩
      by_cases hl : l = D
      · subst hl; rw [updM_same] at z; cases z; exact ⟨gd, av, hd, rl⟩
      · rw [updM_ne hl] at z; exact sp.mo l u z
theorem pvc_start {D : Addr} {W : WdC} (s : Sep K F M H) (hD : H D = none) (w : W 0 [] M) : PvC K F M H D W 0 (upd H D (.lst [])) :=
  ⟨F, M, [], [], ⟨Same.refl F, fun b o e m => ⟨same_new hD b o e, m, id⟩⟩, s.other (s.fnone hD) (s.mnone hD), upd_same, .nil, s.mnone hD, s.fnone hD, Nat.le_refl 0, w⟩
theorem ee_lcL {tl : TE} {g : TG} {tt : TT} {te : TE} {vs : List Nat} {R : KV} (hv : Only g vs) (h : EE K tl env M fun a M1 => ∃ ds, a = .d (.list ds) ∧ ds.length ≤ 100000 ∧ ∃ W : WdC, W 0 [] M1 ∧
      (∀ (i : Nat) x, ds[i]? = some x → TurnC K g tt te (wipeE env vs) W i (.d x)) ∧ (∀ acc M2, acc.length ≤ ds.length → W ds.length acc M2 → EndC R acc M2)) : EE K (tLc (iList K tl) g tt te vs) env M R := fun F σ H Q eo s c =>
  h F σ H _ eo s fun v a G1 M1 H1 e1 ra s1 ⟨ds, ea, hl, W, w0, ws, wd⟩ => by
    subst ea
    obtain ⟨p, xs, rfl, hp, r⟩ := dp_lst ra
    have hlen := dpAll_len r
    refine ⟨p, rfl, ⟨xs, .inl (.inl (s1.ex _ _ hp))⟩, fun D hD => lc_list (xs := xs) (PvC K G1 M1 H1 D W) (pvc_start s1 hD w0) ?_ ?_ ?_⟩
    · rintro i H2 _ ⟨G, M, acc, av, st, sp, _⟩
      exact .inl (.inl (sp.ex _ _ (st.same _ _ hp)))
    · intro i x H2 hi pv
      obtain ⟨y, h1, h2⟩ := dtAll_at r hi
      have hil := (List.getElem?_eq_some_iff.mp hi).1
      exact pvc_turn (by omega) hv (eo.mono e1.same) hD (fun G e => rl_d (dp_mono e h2)) (ws i y h1) pv
    · intro H2 pv
      rw [hlen] at pv
      exact pvc_end hD (c.later e1) wd pv
theorem ee_lcT {tl : TE} {g : TG} {tt : TT} {te : TE} {vs : List Nat} {R : KV} (hv : Only g vs) (h : EE K tl env M fun a M1 => ∃ ds, a = .d (.tuple ds) ∧ ds.length ≤ 100000 ∧ ∃ W : WdC, W 0 [] M1 ∧
      (∀ (i : Nat) x, ds[i]? = some x → TurnC K g tt te (wipeE env vs) W i (.d x)) ∧ (∀ acc M2, acc.length ≤ ds.length → W ds.length acc M2 → EndC R acc M2)) : EE K (tLc (iTup K tl) g tt te vs) env M R := fun F σ H Q eo s c =>
  h F σ H _ eo s fun v a G1 M1 H1 e1 ra s1 ⟨ds, ea, hl, W, w0, ws, wd⟩ => by
    subst ea
    obtain ⟨p, xs, rfl, hp, r⟩ := dp_tup ra
    have hlen := dpAll_len r
    refine ⟨p, rfl, ⟨xs, sqT_mono s1.ex hp⟩, fun D hD => lc_tup (xs := xs) (PvC K G1 M1 H1 D W) (pvc_start s1 hD w0) ?_ ?_ ?_⟩
    · rintro i H2 _ ⟨G, M, acc, av, st, sp, _⟩
      exact sqT_mono sp.ex (sqT_mono st.same hp)
    · intro i x H2 hi pv
      obtain ⟨y, h1, h2⟩ := dtAll_at r hi
      have hil := (List.getElem?_eq_some_iff.mp hi).1
      exact pvc_turn (by omega) hv (eo.mono e1.same) hD (fun G e => rl_d (dp_mono e h2)) (ws i y h1) pv
    · intro H2 pv
      rw [hlen] at pv
      exact pvc_end hD (c.later e1) wd pv
theorem ee_lcR1 {ta : TA} {g : TG} {tt : TT} {te : TE} {vs : List Nat} {R : KV} (hv : Only g vs) (h : EA K ta env M fun as M1 => ∃ n : Int, as = [.d (.int n)] ∧ -(2 ^ 62) ≤ n ∧ n ≤ 100000 ∧ ∃ W : WdC, W 0 [] M1 ∧
      (∀ (i : Nat), (i : Int) < n → TurnC K g tt te (wipeE env vs) W i (.d (.int i))) ∧ (∀ acc M2, acc.length ≤ n.toNat → W n.toNat acc M2 → EndC R acc M2)) : EE K (tLc (iRng1 ta) g tt te vs) env M R := fun F σ H Q eo s c =>
  h F σ H _ eo s fun us as G1 M1 H1 e1 rs s1 ⟨n, ea, l1, l2, W, w0, ws, wd⟩ => by
    subst ea
    obtain ⟨x, rfl, rx⟩ := rla1 rs
    obtain rfl := dp_int rx
    refine ⟨n, rfl, l1, by omega, fun D hD => lc_range (lo := 0) (n := n.toNat) (PvC K G1 M1 H1 D W) (pvc_start s1 hD w0) ?_ ?_⟩
    · intro i H2 hi pv
      have ei : (0 : Int) + (i : Int) = (i : Int) := Int.zero_add _
      rw [ei]
      exact pvc_turn (by omega) hv (eo.mono e1.same) hD (fun G e => rl_d (.int _)) (ws i (by omega)) pv
    · intro H2 pv
      exact pvc_end hD (c.later e1) wd pv
theorem ee_lcR2 {ta : TA} {g : TG} {tt : TT} {te : TE} {vs : List Nat} {R : KV} (hv : Only g vs) (h : EA K ta env M fun as M1 => ∃ lo n : Int, as = [.d (.int lo), .d (.int n)] ∧ (-(2 ^ 62) ≤ lo ∧ lo < 2 ^ 62 ∧ -(2 ^ 62) ≤ n ∧ n < 2 ^ 62) ∧ n - lo ≤ 100000 ∧ ∃ W : WdC, W 0 [] M1 ∧
      (∀ (i : Nat), lo + (i : Int) < n → TurnC K g tt te (wipeE env vs) W i (.d (.int (lo + i)))) ∧ (∀ acc M2, acc.length ≤ (n - lo).toNat → W (n - lo).toNat acc M2 → EndC R acc M2)) : EE K (tLc (iRng2 ta) g tt te vs) env M R := fun F σ H Q eo s c =>
  h F σ H _ eo s fun us as G1 M1 H1 e1 rs s1 ⟨lo, n, ea, l1, l2, W, w0, ws, wd⟩ => by
    subst ea
    obtain ⟨x, y, rfl, rx, ry⟩ := rla2 rs
    obtain rfl := dp_int rx
    obtain rfl := dp_int ry
    refine ⟨lo, n, rfl, l1, fun D hD => lc_range (lo := lo) (n := (n - lo).toNat) (PvC K G1 M1 H1 D W) (pvc_start s1 hD w0) ?_ ?_⟩
    · intro i H2 hi pv
      exact pvc_turn (by omega) hv (eo.mono e1.same) hD (fun G e => rl_d (.int _)) (ws i (by omega)) pv
    · intro H2 pv
      exact pvc_end hD (c.later e1) wd pv
theorem et_yes {R : Bool → MH → Prop} (h : R true M) : ET K tYes env M R := fun F σ H Q eo s c => c _ F M H Step.refl s h
end DL

set_option Elab.async false
set_option linter.all false
set_option maxRecDepth 100000
set_option maxHeartbeats 4000000
namespace DL
open PySem PySem.Spec PyProof.Rows L2
variable {K : PySem.W.Frag} {F G H : Hp} {M : MH} {σ : L2.St} {env : Env'}
/-- a def of the module, with its promise -/
structure Has (P : Program) (w : World) (K : PySem.W.Frag) (mg : Str → Option Value) (base : Heap) (x : Str) (k : Nat) (ps : List Str) (S : SpD) where
  f : Addr
  fd : FuncData
  ok : FnOk P w K mg base CX0 k f fd ps (toSp K ps.length S)
  mg : mg x = some (.ref f)
  kp : PySem.W.keepIn K (.ref f) = true
  b : Binds K fd ps []
/-- == of a list and [] -/
theorem eqv_nil (xs : List PyData) : PyData.eqv (.list xs) (.list []) = xs.isEmpty := by
  cases xs <;> simp [PyData.eqv, PyData.eqvAll]
theorem canLay_ints : ∀ ns : List Int, PyData.canLayAll0 (ns.map PyData.int) = true
  | [] => by simp [PyData.canLayAll0]
  | n :: ns => by simp [PyData.canLayAll0, PyData.canLay0, canLay_ints ns]
theorem depth_ints : ∀ ns : List Int, PyData.depthAll (ns.map PyData.int) ≤ 1
  | [] => by simp [PyData.depthAll]
  | n :: ns => by
    have := depth_ints ns
    simp [PyData.depthAll, PyData.depth]
    omega
theorem shaped_ints (ns : List Int) : SeqAt.shaped (.list (ns.map PyData.int)) = true := by
  unfold SeqAt.shaped
  have := depth_ints ns
  simp [PyData.canLay0, canLay_ints, PyData.depth]
  omega
theorem shaped_intsT (ns : List Int) : SeqAt.shaped (.tuple (ns.map PyData.int)) = true := by
  unfold SeqAt.shaped
  have := depth_ints ns
  simp [PyData.canLay0, canLay_ints, PyData.depth]
  omega
theorem shaped_nil : SeqAt.shaped (.list []) = true := by decide
/-- a word between an if (a loop, any statement) and what follows it -/
theorem ss_cut {t u : TS} {P : Post} (J : Env' → MH → Prop) (h : SS K t env M { P with nx := J }) (k : ∀ e M1, J e M1 → SS K u e M1 P) : SS K (tSeq t u) env M P :=
  ss_seq (h.imp (fun e M1 q => k e M1 q) (fun _ _ q => q) (fun _ _ q => q) (fun _ _ q => q))
theorem atI_nat' {α : Type} {xs : List α} {i : Int} {x : α} (h0 : 0 ≤ i) (h : xs[i.toNat]? = some x) : atI xs i = some x := by
  have hl := (List.getElem?_eq_some_iff.mp h).1
  unfold atI ixN
  rw [if_pos h0, if_pos (by omega)]
  exact h
theorem atD_ints {ns : List Int} {i : Int} (h0 : 0 ≤ i) (h1 : i < ns.length) : atD (.list (ns.map PyData.int)) i = some (.int (ns.getD i.toNat 0)) := by
  refine atI_nat' h0 ?_
  have hl : i.toNat < ns.length := by omega
  rw [List.getElem?_map, List.getElem?_eq_getElem hl]
  simp [hl]
theorem atD_intsT {ns : List Int} {i : Int} (h0 : 0 ≤ i) (h1 : i < ns.length) : atD (.tuple (ns.map PyData.int)) i = some (.int (ns.getD i.toNat 0)) := by
  refine atI_nat' h0 ?_
  have hl : i.toNat < ns.length := by omega
  rw [List.getElem?_map, List.getElem?_eq_getElem hl]
  simp [hl]
theorem rr_fdivW {i j : Int} {R : KV} (hc : CDivW i j) (k : R (.d (.int (i / j))) M) : RR K (rI CDivW fun i j => .int (i / j)) (.d (.int i)) (.d (.int j)) M R := rr_i (f := fun i j => .int (i / j)) (fun _ _ => .int _) hc k
theorem cdivW {i n : Int} (h0 : 0 < n) (h1 : n ≤ 1000000) : CDivW i n := wide_div (b := 20) h0 (by omega) (by decide) (by decide)
theorem cxK {CX : CXT} {P : Program} {w : World} {K : PySem.W.Frag} {mg : Str → Option Value} {base : Heap} {N : List Str} {qual : Str} {scope : Scope} {f : Addr} {cd : Value} {A : Around} {outer : List Env} {s : Shared} {H : Hp} {E : XK} : (cxOf CX P w K mg base N qual scope f cd A outer s H E).K = K := rfl
theorem ssq_asg {te : TE} {g : TG} {u : TS} {P : Post} (h : EE K te env M fun a M1 => SG K g a env M1 fun e M2 => SS K u e M2 P) : SS K (tSeq (tAsg te g) u) env M P := ss_seq (ss_asg h)
theorem ssq_drop {te : TE} {u : TS} {P : Post} (h : EE K te env M fun _ M1 => SS K u env M1 P) : SS K (tSeq (tDrop te) u) env M P := ss_seq (ss_drop h)
theorem ssq_dput {td ty tv : TE} {u : TS} {P : Post} (h : EE K tv env M fun c M1 => EE K td env M1 fun a M2 => ∃ l, a = .m l ∧ EE K ty env M2 fun b M3 => ∃ kvs x, b = .d (.str x) ∧ M3 l = some (.dct kvs) ∧ kvs.length < 1000 ∧ SS K u env (updM M3 l (.dct (putA kvs (.inr x) c))) P) : SS K (tSeq (sDPut td ty tv) u) env M P := ss_seq (ss_dput h)
theorem ssq_par {i j : Nat} {ta : TA} {u : TS} {P : Post} (h : EA K ta env M fun as M1 => ∃ a b, as = [a, b] ∧ SS K u ((env.set i (some a)).set j (some b)) M1 P) : SS K (tSeq (tPar i j ta) u) env M P := ss_seq (ss_par h)
end DL

set_option Elab.async false
set_option linter.all false
set_option maxRecDepth 100000
set_option maxHeartbeats 4000000
/-! Defs that may show data (repr): nothing is being shown when they begin. -/
namespace DL
open PySem PySem.Spec PyProof.Rows L2
/-- a def's promise where nothing is being shown -/
structure FnG (P : Program) (w : World) (K : PySem.W.Frag) (mg : Str → Option Value) (base : Heap) (CX : CXT) (k : Nat) (f : Addr) (fd : FuncData) (ps : List Str) (sp : Sp) : Prop where
  many : ∀ vs H Q E, sp vs H Q E → vs.length = ps.length
  goes : ∀ (A : Around), A.guards = some [] → ∀ (outer : List Env) (s : Shared) (H : Hp) (args : Args) (us : List Value) (vs : List V) (Q : VK) (E : XK),
    Room k A → Env0 P w K mg base A outer s H → BindsTo s fd args (ps.zip us) → Vals vs us → sp vs H Q E → codeAny (model P w) A (.call (.ref f) args) (CR CX outer P w H s Q E) s
section
variable {P : Program} {w : World} {K : PySem.W.Frag} {mg : Str → Option Value} {base : Heap} {CX : CXT} {k : Nat} {f : Addr} {fd : FuncData} {ps : List Str} {sp : Sp}
theorem FnG.of (F : FnOk P w K mg base CX k f fd ps sp) : FnG P w K mg base CX k f fd ps sp := ⟨F.len, fun A _ outer s H args us vs Q E => F.run A outer s H args us vs Q E⟩
end
section
variable {X : Cx} {CX : CXT} {k : Nat} {f : Addr} {fd : FuncData} {ps : List Str} {sp : Sp} {dvs : List V} {ds : List Value} {E : XK} {x : Str} {p pos : Pos} {e : Expr} {es : List Expr} {t : TA}
/-- what a callee gives back, in the caller's eyes -/
theorem behindG {pins : List (Addr × Obj)} {σ : L2.St} {H : Hp} {s : Shared} {Q : VK} (hx : Passes CX X E) (I : Inv X pins σ H s) : ∀ (r : Result) (s' : Shared), CR CX X.stack X.prog X.w H s Q E r s' →
    (match r with
      | .ok (.ret u) => EP X pins σ Q u s'
      | .ok _ => False
      | .error e => X.xe e s')
  | .ok (.ret _), _, h => I.after h
  | .ok .next, _, h => h
  | .ok .brk, _, h => h
  | .ok .cont, _, h => h
  | .error _, _, h => hx _ _ _ _ _ _ I h
theorem run_fnG {pins : List (Addr × Obj)} {σ : L2.St} {H : Hp} {s : Shared} {Q : VK} {us : List Value} {vs : List V} (F : FnG X.prog X.w X.K X.mg X.base CX k f fd ps sp) (hgu : X.A.guards = some []) (hr : Room k X.A)
    (hb : Binds X.K fd ps ds) (hd : Vals dvs ds) (hx : Passes CX X E) (I : Inv X pins σ H s) (r : Vals vs us) (h : sp (vs ++ dvs) H Q E) :
    wpAny (model X.prog X.w) X.A (call (.ref f) us) (EP X pins σ Q) X.xe s := by
  have both := r.append hd
  have many : (us ++ ds).length = ps.length := both.length.symm.trans (F.many _ _ _ _ h)
  have go := F.goes X.A hgu X.stack s H ⟨us, []⟩ _ _ Q E hr I.env0 (hb s us I.kIn many) both h
  refine wpAny_call (codeAny_mono go fun r' s' q => ?_)
  have q2 := behindG hx I r' s' q
  revert q2
  match r' with
  | .ok (.ret u) => exact id
  | .ok .next => exact False.elim
  | .ok .brk => exact False.elim
  | .ok .cont => exact False.elim
  | .error e => exact id
/-- f(e, ..) -/
theorem pe_callG (F : FnG X.prog X.w X.K X.mg X.base CX k f fd ps sp) (hgu : X.A.guards = some []) (hr : Room k X.A) (hg : Gl X x) (hm : X.mg x = some (.ref f)) (hk : PySem.W.keepIn X.K (.ref f) = true) (hb : Binds X.K fd ps ds) (hd : Vals dvs ds)
    (hx : Passes CX X E) (ha : PA X (e :: es) t) (hdb : (x == ("__debug__" : Str)) = false := by decide)
    (he : starEach (e :: es) X.env = (false, eval e X.env) :: starEach es X.env := by rfl) (hpl : (backTo pos (starEach es X.env)).any (·.1) = false := by rfl) : PE X (.Call (.Name x p) (e :: es) [] pos) (tCall sp dvs E t) :=
  ⟨fun pins s σ H Q I h => wpAny_Call_Name_kw (ld_glob I hg hm (PySem.W.callWith_K (h₀ := X.base) I.ok.mod.kin hk
    (thn (ha.run pos pins s σ H _ I h) fun _ _ ⟨_, _, J, r, q⟩ => ⟨J.kIn, run_fnG F hgu hr hb hd hx J r q⟩) he hpl) hdb)⟩
end
section
variable {CX : CXT} {P : Program} {w : World} {K : PySem.W.Frag} {mg : Str → Option Value} {base : Heap}
/-- what a def's body gives back -/
theorem endG {Z : Cx} {outer : List Env} {H : Hp} {s : Shared} {Q : VK} (fin : ∀ {σ' : L2.St} {H' : Hp} {s' : Shared} {v : V} {u : Value}, Inv Z [] σ' H' s' → RelV v u → Q v H' → CE outer P w H s Q u s') :
    ∀ (fl : Flow) (s' : Shared), SP Z [] { nx := fun _ H' => Q .non H', rt := Q } fl s' →
      (fl = .next ∧ CE outer P w H s Q .none s') ∨ ∃ u, fl = .ret u ∧ CE outer P w H s Q u s'
  | .ret _, _, ⟨_, _, _, J, r, q⟩ => .inr ⟨_, rfl, fin J r q⟩
  | .next, _, ⟨_, _, J, q⟩ => .inl ⟨rfl, fin (v := V.non) J rfl q⟩
  | .brk, _, ⟨_, _, _, q⟩ => q.elim
  | .cont, _, ⟨_, _, _, q⟩ => q.elim
theorem fun_okG {x qual : Str} {st : Stmt} {f : Addr} {fd : FuncData} {N ps : List Str} {k : Nat} {sp : Sp} (Fn : Fun K x qual st f fd) (S : FnScope N ps (defScope st)) (many : ∀ vs H Q E, sp vs H Q E → vs.length = ps.length)
    (body : ∀ (cdv : Value) (A : Around) (outer : List Env) (s : Shared) (H : Hp) (vs : List V) (Q : VK) (E : XK), A.guards = some [] → Room k (A.deeper (envOfC qual (defScope st) s.heap.objs.size f cdv)) → sp vs H Q E →
      ∃ t, PSs (cxOf CX P w K mg base N qual (defScope st) f cdv A outer s H E) (defBody st) t ∧ t { nx := fun _ H' => Q .non H', rt := Q } (L2.start N vs) H) : FnG P w K mg base CX (k + 1) f fd ps sp := by
  obtain ⟨oc, od, kV, doc, pm, an, cdv, ct, osl, e, lk, hcd⟩ := Fn.ex
  subst e
  constructor
  · exact many
  intro A hgu outer s H args us vs Q E hr e0 hb r hsp
  have keep := fun (b : Addr) (o : Obj) (e : base.get? b = some o) => (e0.bs b o e).1
  have KX : K.In s.heap := e0.mod.kin.keeps keep
  have kinds : ∀ y ∈ ps.zip us, (defScope st).names.lookup y.1 = some .local ∨ ((defScope st).names.lookup y.1 = some .cell ∧ ((cellsFrom (s.heap.objs.size + 1) (defScope st).names []).lookup y.1).isSome = true) := by
    intro y hy
    obtain ⟨n, v⟩ := y
    cases S.par n (List.of_mem_zip hy).1 with
    | inl q => exact .inl q
    | inr q => exact .inr ⟨q, PySem.W.cellsFrom_some _ _ _ (.inl q)⟩
  refine codeAny_call_function hr.depth (KX _ _ lk) rfl S.co S.gen rfl (PySem.W.codeRec_of KX hcd) (hb _ _ _ _ (wpAny_newFunctionEnv_cells S.kind kinds ?_))
  rintro env rfl s1 x
  refine ⟨(e0.mod.nolimit.keeps keep).keeps x.toInCall.keep, codeAny_func ?_⟩
  obtain ⟨t, ht, hq⟩ := body cdv A outer s H vs Q E hgu (hr.deeper _) hsp
  have I := inv_start (E := E) (CX := CX) S hr.hd e0 (many _ _ _ _ hsp) r x
  refine wpAny_mono (ht.run [] s1 _ H _ I hq) (fun fl s' hs => ?_) fun _ _ z => z
  rcases endG (Q := Q) (s := s) (H := H) (outer := outer) (P := P) (w := w) (fun {σ' H' s' v u} J rv q => ⟨v, H', J.os, J.bare, J.base, J.hok, rv, q⟩) fl s' hs with ⟨rfl, c⟩ | ⟨u, rfl, c⟩
  · exact c
  · exact c
end
end DL

set_option Elab.async false
set_option linter.all false
set_option maxRecDepth 100000
set_option maxHeartbeats 4000000
/-! The end of a law whose defs show data. -/
namespace DL
open PySem PySem.Spec PyProof.Rows L2
/-- a heap in which at most the script, at a, is told -/
structure Lone (K : PySem.W.Frag) (H : Hp) (a : Addr) : Prop where
  only : L2.Only H
  here : ∀ b, b ≠ a → H b = none
  own : H a ≠ none → K.lookup a = none
section
variable {P : Program} {w : World} {K : PySem.W.Frag} {mg mb : Str → Option Value} {CX : CXT} {k : Nat} {fa a : Addr} {fd : FuncData} {x : Str} {sp : Sp} {s₁ : Shared} {vs : List Value} {ns : List Int} {H : Hp}
theorem Lone.free (L : Lone K H a) (ha : s₁.heap.get? a = some { cls := .type "list", data := .seq vs.toArray }) {b : Addr} {o : Obj} {es : Array DictEntry} {ep : Nat} (e : s₁.heap.get? b = some o) (d : o.data = .dict es ep) : H b = none := by
  refine L.here b fun z => ?_
  rw [z, ha] at e
  injection e with e
  rw [← e] at d
  exact (nomatch d)
theorem Lone.nsp (L : Lone K H a) (ha : s₁.heap.get? a = some { cls := .type "list", data := .seq vs.toArray }) {b : Addr} {m : Str → Option Value} (h : s₁.heap.Ns b m) : (hidT s₁.heap H).Ns b m := by
  obtain ⟨o, es, ep, e, d, r⟩ := h
  exact ⟨o, es, ep, hidT_get e (L.free ha e d), d, r⟩
theorem Lone.kin (L : Lone K H a) (KX : K.In s₁.heap) : K.In (hidT s₁.heap H) := fun b o e => hidT_get (KX b o e) (by
  by_cases z : b = a
  · cases q : H b with
    | none => rfl
    | some u =>
      rw [z, L.own (by rw [← z, q]; exact fun y => nomatch y)] at e
      exact (nomatch e)
  · exact L.here b z)
theorem lone_run (L : Lone K H a) (KX : K.In s₁.heap) (hns : s₁.heap.Ns mainGlobals mg) (hb : s₁.heap.Ns builtinsNs mb) (hbb : ∀ x : Str, x ≠ "__name__" → mb x = bootBuiltins x) (hlim : s₁.heap.NoLimit) (hg : s₁.gens = #[])
    (ha : s₁.heap.get? a = some { cls := .type "list", data := .seq vs.toArray }) (hr : Room k callerA)
    (F : ∀ base : Heap, K.In base → base.Ns mainGlobals mg → FnG P w K mg base CX k fa fd [x] sp) (hbind : ∀ (s : Shared) (u : Value), BindsTo s fd ⟨[u], []⟩ [(x, u)])
    (hCX : ∀ H e s', CX [] H s₁ (fun _ _ _ => False) e s' → False) (hok : HOk P w H s₁.heap) (hsp : sp [.ref a] H (fun v _ => v = .bl true) fun _ _ _ => False) :
    codeAny (model P w) callerA (.call (.ref fa) ⟨[.ref a], []⟩) (fun r s' => r = .ok (.ret (.bool true)) ∧ OldK s₁.heap s'.heap ∧ s'.os = s₁.os ∧ AllBare s'.gens) s₁ := by
  have kb := L.kin KX
  have nb := L.nsp ha hns
  have lim : (hidT s₁.heap H).NoLimit := by
    obtain ⟨mc, h1, h2⟩ := hlim
    exact ⟨mc, L.nsp ha h1, h2⟩
  have md : Mod K mg (hidT s₁.heap H) := ⟨kb, nb, ⟨mb, L.nsp ha hb, hbb⟩, lim⟩
  have e0 : Env0 P w K mg (hidT s₁.heap H) callerA [] s₁ H :=
    { frames := rfl, mod := md, bs := fun b o e => of_hidT e, bsz := Nat.le_of_eq (hidT_size _ _), funs := trivial, frf := fun b z => absurd z List.not_mem_nil, hok := hok, bare := .of_eq hg }
  have go := (F _ kb nb).goes callerA rfl [] s₁ H ⟨[.ref a], []⟩ [.ref a] [.ref a] _ _ hr e0 (hbind s₁ (.ref a)) (.cons rfl .nil) hsp
  refine codeAny_mono go fun r s' h => ?_
  match r, h with
  | .error e, h => exact (hCX H e s' h).elim
  | .ok .next, h => exact False.elim h
  | .ok .brk, h => exact False.elim h
  | .ok .cont, h => exact False.elim h
  | .ok (.ret u), ⟨v, H', os, bare, un, hok', rv, q⟩ =>
    have q' : v = .bl true := q
    rw [q'] at rv
    obtain rfl : u = Value.bool true := rv
    refine ⟨rfl, OldK.of_keep (fun b o e => ?_), os, bare⟩
    rcases L.only b with z | ⟨ob, xs, z⟩
    · exact un.keep b o e z (fun y => nomatch y) (fun y => nomatch y)
    · have h1 := (hok b _ z).1
      have h2 := (hok' b _ (un.frzs b ob _ z)).1
      rw [e] at h1
      rw [h1]
      exact h2
theorem law_callG (KX : K.In s₁.heap) (hns : s₁.heap.Ns mainGlobals mg) (hb : s₁.heap.Ns builtinsNs mb) (hbb : ∀ x : Str, x ≠ "__name__" → mb x = bootBuiltins x) (hlim : s₁.heap.NoLimit) (hg : s₁.gens = #[])
    (ha : s₁.heap.get? a = some { cls := .type "list", data := .seq vs.toArray }) (hi : IntsAre vs ns) (hl : ns.length ≤ sizeLine) (hr : Room k callerA)
    (F : ∀ base : Heap, K.In base → base.Ns mainGlobals mg → FnG P w K mg base CX k fa fd [x] sp) (hbind : ∀ (s : Shared) (u : Value), BindsTo s fd ⟨[u], []⟩ [(x, u)])
    (hsp : ∀ H : Hp, L2.Only H → SqL K H a (ns.map V.int) → sp [.ref a] H (fun v _ => v = .bl true) fun _ _ _ => False)
    (hCX : ∀ H e s', CX [] H s₁ (fun _ _ _ => False) e s' → False) :
    codeAny (model P w) callerA (.call (.ref fa) ⟨[.ref a], []⟩) (fun r s' => r = .ok (.ret (.bool true)) ∧ OldK s₁.heap s'.heap ∧ s'.os = s₁.os ∧ AllBare s'.gens) s₁ := by
  have rv := vals_ints hi
  cases hk : K.lookup a with
  | some o =>
    have e := (KX a o hk).symm.trans ha
    injection e with e
    subst e
    have O : L2.Only (fun _ => none) := fun _ => .inl rfl
    refine lone_run (H := fun _ => none) ⟨O, fun _ _ => rfl, fun z => absurd rfl z⟩ KX hns hb hbb hlim hg ha hr F hbind hCX (fun b u z => nomatch z) (hsp _ O (.inr ⟨_, vs.toArray, _, hk, rfl, rfl, rfl, ?_, ?_⟩))
    · rw [List.size_toArray, hi.length]; exact hl
    · simpa using rv
  | none =>
    let u : HO := .frz { cls := .type "list", data := .seq vs.toArray } (.lst (ns.map V.int))
    let H : Hp := fun b => if b = a then some u else none
    have hH : H a = some u := if_pos rfl
    have hN : ∀ b, b ≠ a → H b = none := fun b z => if_neg z
    have O : L2.Only H := fun b => by
      by_cases z : b = a
      · rw [z]; exact .inr ⟨_, _, hH⟩
      · exact .inl (hN b z)
    refine lone_run (H := H) ⟨O, hN, fun _ => hk⟩ KX hns hb hbb hlim hg ha hr F hbind hCX (fun b v z => ?_) (hsp H O (.inl (.inr ⟨_, hH⟩)))
    by_cases y : b = a
    · subst y
      rw [hH] at z
      injection z with z
      subst z
      exact ⟨ha, by rw [List.length_map]; exact hl, vs, _, rv, ha⟩
    · rw [hN b y] at z
      exact (nomatch z)
end
/-- the end: the law's promise may ask that nothing is being shown; the script's ints have at most 2 ^ 20 bits -/
theorem walk_ofG {l : PySem.W.OpenLaw} {n k : Nat} {q : Program} {loose : List Str} {XP : (Str → Option Value) → Heap → Prop} {YP : World → Heap → Prop} {d : DefRec} {K : Params → PySem.W.Frag} {sp : PySem.W.Frag → Sp} {x : Str}
    (hn : l.most = some n) (hn2 : n ≤ sizeLine) (hdf : d.params.defaults = []) (hr : Room k callerA)
    (hY : ∀ (w : World) (h : Heap), YP w h → (K w.params).In h)
    (F : ∀ (w : World) (mg : Str → Option Value) (fa : Addr) (h : Heap), (K w.params).In h → h.Ns mainGlobals mg → mg d.name = some (.ref fa) →
      ∃ fd : FuncData, (∀ (s : Shared) (u : Value), BindsTo s fd ⟨[u], []⟩ [(x, u)]) ∧
        ∀ base : Heap, (K w.params).In base → base.Ns mainGlobals mg → FnG l.prog w (K w.params) mg base CX0 k fa fd [x] (sp (K w.params)))
    (hsp : ∀ (K : PySem.W.Frag) (H : Hp) (a : Addr) (ns : List Int), ns.length ≤ n → (∀ i ∈ ns, Builtin.Int.intBits i ≤ 1048576) → L2.Only H → SqL K H a (ns.map V.int) → sp K [.ref a] H (fun v _ => v = .bl true) fun _ _ _ => False) :
    PySem.W.WalkO q loose XP YP l.row.toRowW d [] (fun f vs => PySem.call f vs) := by
  refine Att.attach_callB hn hdf fun w s₀ s₁ mg mb fa o pm cd doc a vs ns G Y ho hd hcd hmg hobj hints hlen hbits hg => ?_
  obtain ⟨fd, hb, hF⟩ := F w mg fa _ (hY w _ Y) G.T.g hmg
  exact law_callG (hY w _ Y) G.T.g G.T.b G.T.builtins G.T.nolimit hg hobj hints (Nat.le_trans hlen hn2) hr hF hb (fun H hO hS => hsp _ H a ns hlen hbits hO hS) fun _ _ _ => id
/-- a def over data, where nothing is being shown -/
theorem def_okG {P : Program} {w : World} {K : PySem.W.Frag} {mg : Str → Option Value} {base : Heap} {x qual : Str} {st : Stmt} {f : Addr} {fd : FuncData} {N ps : List Str} {k : Nat} {S : SpD} (Fn : Fun K x qual st f fd) (sc : FnScope N ps (defScope st))
    (hbody : ∀ (cdv : Value) (A : Around) (outer : List Env) (s : Shared) (H : Hp) (E : XK), A.guards = some [] → Room k (A.deeper (envOfC qual (defScope st) s.heap.objs.size f cdv)) →
      ∃ t, PSs (cxOf CX0 P w K mg base N qual (defScope st) f cdv A outer s H E).nox (defBody st) t ∧
        ∀ as M R, as.length = ps.length → S as M R → SS K t (as.map some ++ List.replicate (N.length - ps.length) none) M
          { nx := fun _ M1 => ∃ M', SubM M' M1 ∧ R (.d .none) M', rt := fun a M1 => ∃ a' M', Out a M1 a' M' ∧ R a' M' }) :
    FnG P w K mg base CX0 (k + 1) f fd ps (toSp K ps.length S) := by
  refine fun_okG Fn sc (fun vs H Q E h => h.1) (fun cdv A outer s H vs Q E hgu hr h => ?_)
  obtain ⟨hl, F, M, as, R, ra, sp, hS, c⟩ := h
  obtain ⟨t, ht, hq⟩ := hbody cdv A outer s H E hgu hr
  refine ⟨t, ht.nox, ?_⟩
  have hla : as.length = ps.length := (rlAll_len ra).symm.trans hl
  have hst : L2.start N vs = vs.map some ++ List.replicate (N.length - ps.length) none := by unfold L2.start; rw [hl]
  rw [hst]
  refine hq as M R hla hS F _ H _ (envOk_start ra _) sp ⟨?_, c.out, fun _ _ _ _ _ _ _ _ => False.elim, fun _ _ _ _ _ _ _ _ => False.elim⟩
  intro σ1 e1 G1 M1 H1 s1 _ sp1 ⟨M', hs, q⟩
  exact c _ _ G1 M' H1 (s1.trans (Step.sub hs)) (rl_d .non) (sp1.sub hs) q
end DL

set_option Elab.async false
set_option linter.all false
set_option maxRecDepth 100000
set_option maxHeartbeats 4000000
/-! Data that is shown (repr). -/
namespace DL
open PySem PySem.Spec PyProof.Rows L2
def Kept (h h' : Heap) : Prop := ∀ b o, h.get? b = some o → h'.get? b = some o
/-- a value that can be shown, within other data and alone -/
structure Sh (P : Program) (w : World) (h : Heap) (u : Value) (x : PyData) : Prop where
  rd : ∃ as, Reads h u x as
  rk : ∃ bs, ReadAtMost h x.depth bs ∧ ReprK P w bs h x.depth u x.shown
  top : ∀ (A : Around) (E : Value → Shared → Prop) (s : Shared) (Q : Value → Shared → Prop), A.guards = some [] → A.units + (x.depth + 1) < cLine → Kept h s.heap →
    (∀ h' t tk, Kept s.heap h' → Q (.str x.shown t) { s with heap := h', toks := tk }) → wpAny (model P w) A (call (.builtin "repr") [u]) Q E s
structure ShAll (P : Program) (w : World) (h : Heap) (us : List Value) (xs : List PyData) : Prop where
  rd : ∃ as, ReadsAll h us xs as
  rk : ∃ bs, ReadAtMost h (PyData.depthAll xs) bs ∧ ReprAllK P w bs h (PyData.depthAll xs) us (PyData.shownAll xs)
section
variable {P : Program} {w : World} {h : Heap}
theorem Sh.flat {u : Value} {x : PyData} (r : Reads h u x []) (k : ReprIs P w u x.shown)
    (t : ∀ (A : Around) (E : Value → Shared → Prop) (s : Shared) (Q : Value → Shared → Prop), (∀ t tk, Q (.str x.shown t) { s with toks := tk }) → wpAny (model P w) A (call (.builtin "repr") [u]) Q E s) : Sh P w h u x :=
  ⟨⟨_, r⟩, ⟨[], (fun _ z => nomatch z), .of_is k _ _ _⟩, fun A E s Q _ _ _ q => t A E s Q fun t tk => q s.heap t tk fun _ _ e => e⟩
theorem ShAll.nil : ShAll P w h [] [] := ⟨⟨_, .nil⟩, ⟨[], (fun _ z => nomatch z), by simp only [PyData.shownAll]; exact .nil⟩⟩
theorem ShAll.cons {u : Value} {x : PyData} {us : List Value} {xs : List PyData} (a : Sh P w h u x) (b : ShAll P w h us xs) : ShAll P w h (u :: us) (x :: xs) := by
  obtain ⟨⟨as, r1⟩, ⟨b1, m1, k1⟩, _⟩ := a
  obtain ⟨⟨bs, r2⟩, ⟨b2, m2, k2⟩⟩ := b
  have l1 : x.depth ≤ PyData.depthAll (x :: xs) := by simp only [PyData.depthAll]; omega
  have l2 : PyData.depthAll xs ≤ PyData.depthAll (x :: xs) := by simp only [PyData.depthAll]; omega
  refine ⟨⟨_, .cons r1 r2⟩, b1 ++ b2, (m1.mono l1).append (m2.mono l2), ?_⟩
  rw [PyData.shownAll]
  exact .cons ((k1.more fun b z => List.mem_append_left _ z).level_le l1) (k2.more_le (fun b z => List.mem_append_right _ z) l2)
theorem Sh.lst {a : Addr} {o : Obj} {l : List Value} {n : Nat} {xs : List PyData} (h1 : h.get? a = some o) (h2 : o.cls = .type "list") (h3 : o.data = .seq l.toArray n) (s : ShAll P w h l xs)
    (hz : (listText (PyData.shownAll xs)).length ≤ sizeLine) : Sh P w h (.ref a) (.list xs) := by
  obtain ⟨⟨as, r⟩, bs, m, k⟩ := s
  have rr : Reads h (.ref a) (.list xs) (a :: as) := .list h1 h2 h3 r
  have d1 : (PyData.list xs).depth = PyData.depthAll xs + 1 := by simp only [PyData.depth]
  have no : a ∉ bs := not_mem_of_deeper rr (by omega) m
  have sh : (PyData.list xs).shown = listText (PyData.shownAll xs) := by simp only [PyData.shown]
  refine ⟨⟨_, rr⟩, ⟨a :: bs, ReadAtMost.cons rr (by omega) m, ?_⟩, fun A E s Q hg hu hk q => ?_⟩
  · rw [d1, sh]
    match l, h3, r, k with
    | [], h3, r, k =>
      generalize PyData.shownAll xs = ts at k
      cases k with
      | nil => exact .listEmpty h1 h2 h3
    | x :: l, h3, _, k => exact .list h1 h2 h3 no (by simpa using k.length_eq) fun i y e => k.item i y (by simpa using e)
  · rw [d1] at hu
    rw [sh] at q
    have ty : s.TypeIs (.ref a) "list" := ⟨o, hk _ _ h1, h2⟩
    refine call_repr_slot (by omega) ty F.slot_list_repr.toG ?_
    match l, h3, r, k with
    | [], h3, r, k =>
      generalize PyData.shownAll xs = ts at k q
      cases k with
      | nil => exact call_list_repr_empty ty (hk _ _ h1) h3 ⟨_, _, rfl, q s.heap _ _ fun _ _ e => e⟩
    | x :: l, h3, _, k =>
      exact call_list_reprK h1 h2 h3 no (by simpa using k.length_eq) (fun i y e => k.item i y (by simpa using e)) hg (fun b _ => Clear.nil b) (by show A.units + 1 + _ < _; omega) hk (fun h' u tk z => ⟨_, _, rfl, q h' u tk z⟩) hz
theorem Sh.tup {a : Addr} {o : Obj} {l : List Value} {n : Nat} {xs : List PyData} (h1 : h.get? a = some o) (h2 : o.cls = .type "tuple") (h3 : o.data = .seq l.toArray n) (s : ShAll P w h l xs)
    (hz : (tupleText (PyData.shownAll xs)).length ≤ sizeLine) : Sh P w h (.ref a) (.tuple xs) := by
  obtain ⟨⟨as, r⟩, bs, m, k⟩ := s
  have rr : Reads h (.ref a) (.tuple xs) as := .tuple h1 h2 h3 r
  have d1 : (PyData.tuple xs).depth = PyData.depthAll xs + 1 := by simp only [PyData.depth]
  have no : a ∉ bs := not_mem_of_deeper rr (by omega) m
  have sh : (PyData.tuple xs).shown = tupleText (PyData.shownAll xs) := by simp only [PyData.shown]
  refine ⟨⟨_, rr⟩, ⟨a :: bs, ReadAtMost.cons rr (by omega) m, ?_⟩, fun A E s Q hg hu hk q => ?_⟩
  · rw [d1, sh]
    exact .tuple h1 h2 h3 no k
  · rw [d1] at hu
    rw [sh] at q
    refine call_repr_slot (by omega) ⟨o, hk _ _ h1, h2⟩ F.slot_tuple_repr ?_
    exact call_tuple_reprK h1 h2 h3 no k hg (fun b _ => Clear.nil b) (by show A.units + 1 + _ < _; omega) hk (fun h' u tk z => ⟨_, _, rfl, q h' u tk z⟩) hz
theorem Sh.dic0 {a : Addr} {o : Obj} {es : Array DictEntry} {n : Nat} (h1 : h.get? a = some o) (h2 : o.cls = .type "dict") (h3 : o.data = .dict es n) (he : es.toList = []) (hs : (a == sysModules) = false) : Sh P w h (.ref a) (.dict []) := by
  have rr : Reads h (.ref a) (.dict []) (a :: [] ++ []) := .dict h1 h2 h3 (by rw [he]; exact .nil) (by rw [he]; exact .nil)
  have d1 : (PyData.dict []).depth = 0 + 1 := by decide
  have sh : (PyData.dict []).shown = dictText [] := by simp only [PyData.shown, PyData.shownKv]
  have ek : ReprEntriesK P w [] h 0 es.toList [] := by rw [he]; exact .nil
  refine ⟨⟨_, rr⟩, ⟨[a], ReadAtMost.cons rr (n := 0) (by omega) (fun _ z => nomatch z), ?_⟩, fun A E s Q hg hu hk q => ?_⟩
  · rw [d1, sh]
    exact .dict h1 h2 h3 hs (fun z => nomatch z) ek
  · rw [d1] at hu
    rw [sh] at q
    refine call_repr_slot (by omega) ⟨o, hk _ _ h1, h2⟩ F.slot_dict_repr ?_
    exact call_dict_reprK (as := []) (d := 0) h1 h2 h3 hs List.not_mem_nil ek hg (fun b _ => Clear.nil b) (by show A.units + 1 + _ < _; omega) hk (fun h' u tk z => ⟨_, _, rfl, q h' u tk z⟩) (by decide)
end
section
variable {X : Cx} {pins : List (Addr × Obj)} {σ : L2.St} {H : Hp} {s : Shared}
mutual
theorem Dt.sh (I : Inv X pins σ H s) : ∀ {v : V} {x : PyData} {u : Value}, Dt X.K H v x → RelV v u → x.showable = true → x.shown.length ≤ sizeLine → Sh X.prog X.w s.heap u x
  | _, _, _, .non, r, _, _ => by
    cases r
    exact .flat .none (by simp only [PyData.shown]; exact ReprIs.none) fun A E s Q q => PySem.P.repr_of_none (by simpa only [PyData.shown] using q _ _)
  | _, _, _, .bl b, r, _, _ => by
    cases r
    exact .flat (.bool b) (by simp only [PyData.shown]; exact ReprIs.bool b) fun A E s Q q => PySem.P.repr_of_bool (by simpa only [PyData.shown] using q _ _)
  | _, _, _, .int i, r, hs, _ => by
    obtain ⟨t, rfl⟩ := r
    have hi : i.natAbs.log2 < 1920 := by simpa [PyData.showable] using hs
    exact .flat (.int i t) (by simp only [PyData.shown]; exact ReprIs.int t hi) fun A E s Q q => PySem.P.repr_of_int hi (by simpa only [PyData.shown] using q _ _)
  | _, _, _, .str z, r, _, hz => by
    obtain ⟨t, rfl⟩ := r
    have hz' : (reprText z).length ≤ sizeLine := by simpa only [PyData.shown] using hz
    exact .flat (.str z t) (by simp only [PyData.shown]; exact ReprIs.str z t hz') fun A E s Q q => PySem.P.repr_of_str (by simpa only [PyData.shown] using q _ _) hz'
  | _, _, _, .lst (ds := ds) h d, r, hs, hz => by
    cases r
    obtain ⟨its, rv, ⟨o, n, ho, hc, _, hd⟩, _⟩ := I.list (.inl (.inl h))
    have hz' : (listText (PyData.shownAll ds)).length ≤ sizeLine := by simpa only [PyData.shown] using hz
    exact .lst ho hc hd (Dt.shAll I d rv (by simpa [PyData.showable] using hs) fun t z => Nat.le_trans (listText_mem_le z) hz') hz'
  | _, _, _, .tup (ds := ds) h d, r, hs, hz => by
    cases r
    obtain ⟨its, rv, ⟨o, ho, hc, n, hd⟩, _⟩ := I.tuple h
    have hz' : (tupleText (PyData.shownAll ds)).length ≤ sizeLine := by simpa only [PyData.shown] using hz
    exact .tup ho hc hd (Dt.shAll I d rv (by simpa [PyData.showable] using hs) fun t z => Nat.le_trans (tupleText_mem_le z) hz') hz'
  | _, _, _, .dic h, r, _, _ => by
    cases r
    obtain ⟨_, far, vs, kv, ⟨o, es, ep, ho, hc, hd, _, hp, _⟩⟩ := I.hok _ _ h
    cases kv
    have e : es.toList = [] := by
      generalize es.toList = l at hp
      cases hp
      rfl
    exact .dic0 ho hc.1 hd e far
theorem Dt.shAll (I : Inv X pins σ H s) : ∀ {vs : List V} {xs : List PyData} {us : List Value}, DtAll X.K H vs xs → Vals vs us → PyData.showableAll xs = true → (∀ t ∈ PyData.shownAll xs, t.length ≤ sizeLine) → ShAll X.prog X.w s.heap us xs
  | _, _, _, .nil, r, _, _ => by
    cases r
    exact .nil
  | _, _, _, .cons h d, r, hs, hz => by
    cases r with
    | cons r1 r2 =>
      simp only [PyData.showableAll, Bool.and_eq_true] at hs
      simp only [PyData.shownAll, List.mem_cons] at hz
      exact .cons (Dt.sh I h r1 hs.1 (hz _ (.inl rfl))) (Dt.shAll I d r2 hs.2 fun t z => hz t (.inr z))
end
/-- repr(e) of data -/
def rRepr (K : PySem.W.Frag) : List V → Hp → VK → Prop := fun xs H Q => ∃ v x, xs = [v] ∧ Dt K H v x ∧ x.showable = true ∧ x.depth ≤ 60 ∧ x.shown.length ≤ sizeLine ∧ Q (.str x.shown) H
theorem call_repr (hgu : X.A.guards = some []) (hu : X.A.units + 64 < cLine) : CallR X (.builtin "repr") (rRepr X.K) := by
  intro pins s σ H xs us Q I r h
  obtain ⟨v, x, rfl, d, hs, hd, hz, q⟩ := h
  obtain ⟨u, rfl, r1⟩ := vals1 r
  refine (Dt.sh I d r1 hs hz).top X.A _ s _ hgu (by omega) (fun _ _ e => e) fun h' t tk k => ?_
  exact ⟨.str x.shown, H, I.kept k, ⟨t, rfl⟩, q⟩
end
section
variable {K : PySem.W.Frag} {M : MH}
theorem rc_repr {a : AV} {x : PyData} {R : KV} (ha : Rda M a x) (hs : x.showable = true) (hd : x.depth ≤ 60) (hz : x.shown.length ≤ sizeLine) (k : R (.d (.str x.shown)) M) : RC K (rRepr K) [a] M R := fun F H xs Q rs s c => by
  obtain ⟨v, rfl, rv⟩ := rla1 rs
  exact ⟨v, x, rfl, ha.dp rv s, hs, hd, hz, c _ _ F M H Step.refl (rl_d (.str _)) s k⟩
end
end DL

set_option Elab.async false
set_option linter.all false
set_option maxRecDepth 100000
set_option maxHeartbeats 4000000
/-! enumerate over a tuple. -/
namespace PySem
open Sem (wp)
open AutoSeq1 (wpAny_loadPart')
theorem meetsEnumTup (t : Addr) (o : Obj) (items : Array Value) (n : Nat) (hc : o.cls = .type "tuple") (hd : o.data = .seq items n) :
    Meets (Builtin.«enumerate.__new__» ⟨[.type "enumerate", .ref t], []⟩) (fun _ R s => s.heap.get? t = some o ∧
      R (.ok (.ret (.ref (s.heap.push { cls := .type "tuple_iterator", data := .fields #[.ref t, .int 0 0] }).objs.size)))
        { s with heap := (s.heap.push { cls := .type "tuple_iterator", data := .fields #[.ref t, .int 0 0] }).push { cls := .type "enumerate", data := .fields #[.none, .bool false, .ref s.heap.objs.size, rawInt 0, .none, .none] } }) :=
  .of_wp fun prog w A R s h => by
    obtain ⟨dct, cl, dt, sl⟩ := o
    obtain ⟨hp, g, d, tk, os⟩ := s
    obtain ⟨hl, h⟩ := h
    have hsub := sub_enumerate
    have hT : Heap.IsTuple (Shared.heap ⟨hp, g, d, tk, os⟩) t items := ⟨_, hl, hc, n, hd⟩
    wp_walk using wpAny_loadPart' hl
    refine wpAny_stack_any fun st => wpAny_pure ?_
    split
    · rename_i c _ _ _ _ _
      cases (c == Value.type "enumerate") <;>
        · wp_walk using wpAny_loadPart' hl, wpAny_pyIter_tuple hT
          exact ⟨_, rfl, h⟩
    · wp_walk using wpAny_loadPart' hl, wpAny_pyIter_tuple hT
      exact ⟨_, rfl, h⟩
theorem callEnumTup {prog : Program} {w : World} {A : Around} {E : Value → Shared → Prop} {s : Shared} {t : Addr} {items : Array Value} {Q : Value → Shared → Prop} (hT : s.heap.IsTuple t items)
    (h : ∀ h', IsEnum h' (s.heap.objs.size + 1) s.heap.objs.size 0 .none → h'.IsTupleIter s.heap.objs.size t 0 → (∀ b o, s.heap.get? b = some o → h'.get? b = some o) → Q (.ref (s.heap.objs.size + 1)) { s with heap := h' }) :
    wpAny (model prog w) A (call (.type "enumerate") [.ref t]) Q E s := by
  obtain ⟨o, ho, hc, n, hd⟩ := hT
  refine callType_new F.called_enumerate (by decide) (F.typeCall_enumerate_1 _) (F.newCall_enumerate_1 _) (fun obj => F.args_object_init_2 obj _) F.entry_enumerate_new (meetsEnumTup t o items n hc hd) ⟨ho, ?_⟩
  generalize hi : ({ cls := .type "tuple_iterator", data := .fields #[.ref t, .int 0 0] } : Obj) = it
  have one : (s.heap.push it).objs.size = s.heap.objs.size + 1 := Heap.size_push ..
  have g1 : (s.heap.push it).get? s.heap.objs.size = some it := Heap.get?_push_size _ (by rw [← hi]; rfl)
  show _ ∧ _
  rw [one]
  have he : IsEnum ((s.heap.push it).push { cls := .type "enumerate", data := .fields #[.none, .bool false, .ref s.heap.objs.size, rawInt 0, .none, .none] }) (s.heap.objs.size + 1) s.heap.objs.size 0 .none := by
    have z := Heap.get?_push_size (s.heap.push it) (o := { cls := .type "enumerate", data := .fields #[.none, .bool false, .ref s.heap.objs.size, rawInt 0, .none, .none] }) rfl
    rw [one] at z
    exact z
  exact ⟨⟨_, he, rfl⟩, h _ he ⟨it, Heap.get?_push_of_some _ g1, by rw [← hi], by rw [← hi]; rfl⟩ fun b o y => Heap.get?_push_of_some _ (Heap.get?_push_of_some _ y)⟩
end PySem

namespace DL
open PySem PySem.Spec PyProof.Rows L2
/-- the tuple at a as it stands, its items in new pairs with their places -/
def ItEt (K : PySem.W.Frag) (a : Addr) : It where
  go i H := ∃ (xs : List V) (x : V), SqT K H a xs ∧ xs[i]? = some x
  yld i H v H' := ∃ T x, v = .ref T ∧ H T = none ∧ H' = upd H T (.tup [.int (i : Nat), x]) ∧ ∀ xs, SqT K H a xs → xs[i]? = some x
  stop i H := ∃ xs : List V, SqT K H a xs ∧ xs.length = i
theorem turnEnumTup {P : Program} {w : World} {K : PySem.W.Frag} {elts : List Expr} {kk : Nat} {tpos : Pos} (a e it : Addr) :
    Turn P w K (.Tuple elts kk tpos) (ItEt K a) [e, it] e (fun i h => (∃ old, IsEnum h e it ((i : Nat) : Int) old) ∧ h.IsTupleIter it a i ∧ e ≠ it) where
  mem := List.mem_cons_self
  obj := by
    rintro i h ⟨⟨old, he⟩, ⟨o, ho, _, hd⟩, _⟩ b hb
    rcases List.mem_cons.mp hb with z | z
    · subst z
      exact ⟨_, he, fun v q => nomatch q⟩
    · obtain rfl : b = it := by simpa using z
      exact ⟨o, ho, fun v q => by rw [hd] at q; exact nomatch q⟩
  keep := by
    rintro i h h' ⟨⟨old, he⟩, hi, hne⟩ k
    exact ⟨⟨old, k e (by simp) _ he⟩, hi.at fun o q => k it (by simp) o q, hne⟩
  item := by
    rintro X rfl rfl rfl hc i pins s σ H E I hf ⟨⟨old, he⟩, hit, hne⟩ ⟨xs, x, hq, hx⟩
    obtain ⟨its, rv, p, hz⟩ := I.tuple hq
    obtain ⟨u, hu, ru⟩ := rv.get hx
    have far : a ≠ it := by
      rintro rfl
      obtain ⟨o, ho, h1, _⟩ := hit
      obtain ⟨o2, ho2, h2, _⟩ := p
      rw [ho] at ho2
      injection ho2 with z
      rw [← z, h1] at h2
      exact absurd h2 (by decide)
    have far2 : e ≠ a := by
      rintro rfl
      obtain ⟨o2, ho2, h2, _⟩ := p
      rw [he] at ho2
      injection ho2 with z
      rw [← z] at h2
      exact absurd (show Value.type "enumerate" = Value.type "tuple" from h2) (by decide)
    have D := Draws.tuple (prog := X.prog) (w := X.w) (A := X.A.in1) (I.ok.hd hc) it a far its.toArray
    have el : e < s.heap.objs.size := Heap.lt_size he
    have il : it < s.heap.objs.size := by obtain ⟨_, q, _⟩ := hit; exact Heap.lt_size q
    have lt : i < its.toArray.size := by
      have := (List.getElem?_eq_some_iff.mp hu).1
      simpa using this
    refine wpAny_pyNext_enum_itemD D he ⟨hit, p⟩ lt hne (by simp [hne, far2]) fun y h' tk hy ho st' hT hsz hk => ?_
    have ey : y = u := by
      have z : its[i]? = some y := by simpa using hy
      rw [hu] at z
      exact (Option.some.inj z).symm
    subst ey
    refine ⟨_, rfl, wpAny_letOwnedTupleGo_enum (s := { s with heap := h', toks := tk + 1 }) ho fun h2 he' sb => ?_⟩
    have hT2 := (sb.2 _ (Nat.ne_of_gt el)).trans hT
    have new : ObjOk X.prog X.w (upd H s.heap.objs.size (.tup [.int (i : Nat), x])) h2 s.heap.objs.size (.tup [.int (i : Nat), x]) :=
      ⟨by show 2 ≤ sizeLine; decide, [.int i tk, y], .cons ⟨_, rfl⟩ (.cons ru .nil), ⟨_, hT2, rfl, _, rfl⟩⟩
    have stay : ∀ b ob, b ∉ [e, it] → s.heap.get? b = some ob → h2.get? b = some ob := fun b ob hb q => by
      have n1 : b ≠ e := fun z => hb (by simp [z])
      have n2 : b ≠ it := fun z => hb (by simp [z])
      exact (sb.2 b n1).trans (hk b ob n1 n2 q)
    have J := I.turnedNew (t' := tk + 1) stay hf (Nat.le_refl _) new
    refine ⟨.ref s.heap.objs.size, _, J, rfl, ⟨_, x, rfl, I.hok.fresh (Nat.le_refl _), rfl, fun ys hy => by rw [I.tuple_inj hy hq]; exact hx⟩, ⟨⟨y, ?_⟩, st'.1.at fun o q => (sb.2 it (Ne.symm hne)).trans q, hne⟩, fun b hb => ?_⟩
    · rw [show ((i + 1 : Nat) : Int) = (i : Int) + 1 by omega]
      exact he'
    · have bl : b < s.heap.objs.size := by
        rcases List.mem_cons.mp hb with z | z
        · rw [z]; exact el
        · rw [show b = it by simpa using z]; exact il
      rw [upd_ne (Nat.ne_of_lt bl)]
      exact (hf b hb).1
  done := by
    rintro X rfl rfl rfl hc i pins s σ H E I hf ⟨⟨old, he⟩, hit, hne⟩ ⟨xs, hq, hx⟩
    obtain ⟨its, rv, p, hz⟩ := I.tuple hq
    have far : a ≠ it := by
      rintro rfl
      obtain ⟨o, ho, h1, _⟩ := hit
      obtain ⟨o2, ho2, h2, _⟩ := p
      rw [ho] at ho2
      injection ho2 with z
      rw [← z, h1] at h2
      exact absurd h2 (by decide)
    obtain ⟨f0, f1, f2, f3, f4, f5⟩ := hf it (by simp)
    have many := rv.length
    have D := Draws.tuple (prog := X.prog) (w := X.w) (A := X.A.in1) (I.ok.hd hc) it a far its.toArray
    obtain rfl : its.toArray.size = i := by simp; omega
    exact wpAny_pyNext_enum_endD D he ⟨hit, p⟩ fun h' eb => ⟨rfl, I.turned (t' := s.toks) (fun b o hb q => eb b o hb q) f0 f1 f3 f4 f5⟩
  self := fun A i s Q E st h => let ⟨⟨_, he⟩, _⟩ := st; wpAny_pyIter_enum he h
def iEnumT (K : PySem.W.Frag) (ta : TA) : TI := fun σ H R => ta σ H fun vs H1 => ∃ a xs, vs = [.ref a] ∧ SqT K H1 a xs ∧ R (ItEt K a) H1
theorem pi_enumT {X : Cx} {e : Expr} {ta : TA} {p pos tpos : Pos} {elts : List Expr} {kk : Nat} (hg : Gl X "enumerate") (hm : X.mg "enumerate" = none) (ha : PA X [e] ta) (hs : starEach [e] X.env = [(false, eval e X.env)] := by rfl) :
    PI X (.Tuple elts kk tpos) (.Call (.Name "enumerate" p) [e] [] pos) (iEnumT X.K ta) := by
  constructor
  intro pins s σ H R I h
  refine Call_ (ld_blt I hg hm boot_enumerate (PyProof.Rows.callWith_type1 (thn (ha.run pos pins s σ H _ I h) fun us s1 ⟨vs, H1, J, r, a, xs, ev, hq, q⟩ => ?_) hs rfl))
  subst ev
  obtain ⟨u, rfl, ru⟩ := vals1 r
  cases ru
  obtain ⟨its, rv, p2, hz⟩ := J.tuple hq
  refine callEnumTup p2 fun h' he hit hk => wpAny_pyIter_enum he ?_
  have J2 := J.kept (t' := s1.toks) hk
  refine ⟨s1.heap.objs.size + 1, [s1.heap.objs.size + 1, s1.heap.objs.size], _, _, H1, rfl, J2, turnEnumTup a (s1.heap.objs.size + 1) s1.heap.objs.size, ⟨⟨.none, he⟩, hit, Nat.succ_ne_self _⟩, ?_, q⟩
  intro b hb
  have le : s1.heap.objs.size ≤ b := by
    rcases List.mem_cons.mp hb with z | z
    · rw [z]; exact Nat.le_succ _
    · rw [show b = s1.heap.objs.size by simpa using z]; exact Nat.le_refl _
  exact J.fpOk le (J.hok.fresh le)
end DL

set_option Elab.async false
set_option linter.all false
set_option maxRecDepth 100000
set_option maxHeartbeats 4000000
/-! Loops and comprehensions over anything that hands out data. -/
namespace DL
open PySem PySem.Spec PyProof.Rows L2
variable {K : PySem.W.Frag} {F G H : Hp} {M : MH} {σ : L2.St} {env : Env'}
/-- an iterator hands out items, while C holds of what may change -/
def Feeds (K : PySem.W.Frag) (J : It) (F : Hp) (C : MH → Prop) (items : List AV) : Prop := ∃ (Gd : Hp → Prop) (Y : Nat → Hp → V → Hp → Prop), L2.Walk J items.length Gd Y ∧
  (∀ G M H, Same F G → Sep K G M H → C M → Gd H) ∧
  ∀ (i : Nat) a G M H v H', Same F G → Sep K G M H → C M → items[i]? = some a → Y i H v H' → ∃ G', Step G M H G' M H' ∧ Rl K G' v a ∧ Sep K G' M H'
def EI (K : PySem.W.Frag) (ti : TI) (env : Env') (M : MH) (R : List AV → (MH → Prop) → MH → Prop) : Prop := ∀ F σ H Q, EnvOk K F σ env → Sep K F M H →
  (∀ J G M' H' C items, Step F M H G M' H' → Feeds K J G C items → Sep K G M' H' → R items C M' → Q J H') → ti σ H Q
theorem ss_for {ti : TI} {g : TG} {tb : TS} {P : Post} (h : EI K ti env M fun items C M1 => ∃ W : Wd, W 0 env M1 ∧ (∀ i e2 M2, W i e2 M2 → C M2) ∧
      (∀ (i : Nat) a e2 M2, items[i]? = some a → W i e2 M2 → SG K g a e2 M2 fun e3 M3 => SS K tb e3 M3 { P with nx := W (i + 1), ct := W (i + 1), bk := P.nx }) ∧ (∀ e2 M2, W items.length e2 M2 → P.nx e2 M2)) :
    SS K (tFor ti g tb) env M P := fun F σ H D eo s c =>
  h F σ H _ eo s fun J G1 M1 H1 C items e1 ⟨Gd, Y, w, fd, ft⟩ s1 ⟨W, w0, wc, ws, wd⟩ => by
    refine for_it w (Pvw K G1 M1 H1 W) ⟨G1, env, M1, Step.refl, eo.mono e1, s1, w0⟩ ?_ ?_ ?_
    · rintro i σ2 H2 _ ⟨G2, e2, M2, s2, eo2, sp2, w2⟩
      exact fd G2 M2 H2 s2.same sp2 (wc i e2 M2 w2)
    · rintro i v σ2 H2 H3 hi ⟨G2, e2, M2, s2, eo2, sp2, w2⟩ y
      obtain ⟨a, ha⟩ : ∃ a, items[i]? = some a := ⟨items[i], by simp [hi]⟩
      obtain ⟨G3, s3, ra, sp3⟩ := ft i a G2 M2 H2 v H3 s2.same sp2 (wc i e2 M2 w2) ha y
      refine ws i a e2 M2 ha w2 G3 v σ2 H3 _ ra (eo2.mono s3.same) sp3 fun σ4 e4 G4 M4 H4 s4 eo4 sp4 q => q G4 σ4 H4 _ eo4 sp4 ?_
      have st := (s2.trans s3).trans s4
      exact ⟨pvw_cont st, c.rt.later (e1.trans st), c.nx.later (e1.trans st), pvw_cont st⟩
    · rintro σ2 H2 ⟨G2, e2, M2, s2, eo2, sp2, w2⟩
      exact c.nx _ _ G2 M2 H2 (e1.trans s2) eo2 sp2 (wd e2 M2 w2)
theorem pvc_turn2 {F0 H0 : Hp} {M0 : MH} {D : Addr} {W : WdC} {i : Nat} {g : TG} {tt : TT} {te : TE} {vs : List Nat} {v : V} {a : AV} (hi : i < 100000) (hv : Only g vs) (eo : EnvOk K F0 σ env) (hD : H0 D = none)
    (t : TurnC K g tt te (wipeE env vs) W i a) {G H : Hp} {acc : List AV} {av : List V} (st : Step F0 M0 H0 G M H) (sp : Sep K G M H) (hd : H D = some (.lst av)) (rl : RlAll K G av acc) (md : M D = none) (gd : G D = none) (la : acc.length ≤ i)
    (w : W i acc M) (ra : Rl K G v a) :
    g v (wipe σ vs) H fun σ2 H2 => wipe σ2 vs = wipe σ vs ∧ tt σ2 H2 fun b H3 => if b = true then te σ2 H3 fun y H4 => ∃ acc, H4 D = some (.lst acc) ∧ acc.length < sizeLine ∧ PvC K F0 M0 H0 D W (i + 1) (upd H4 D (.lst (acc ++ [y]))) else PvC K F0 M0 H0 D W (i + 1) H3 := by
  have eo' := (eo.mono st.same).wipe vs
  have z := t acc M la w G v (wipe σ vs) H (fun σ2 H2 => tt σ2 H2 fun b H3 => if b = true then te σ2 H3 fun y H4 => ∃ acc, H4 D = some (.lst acc) ∧ acc.length < sizeLine ∧ PvC K F0 M0 H0 D W (i + 1) (upd H4 D (.lst (acc ++ [y]))) else PvC K F0 M0 H0 D W (i + 1) H3) ra eo' sp ?_
  · have z2 := hv v (wipe σ vs) H _ z
    rw [wipe_wipe] at z2
    exact z2
  · intro σ3 e3 G3 M3 H3 s3 eo3 sp3 q
    refine q G3 σ3 H3 _ eo3 sp3 fun b G4 M4 H4 s4 sp4 ⟨h1, h2⟩ => ?_
    cases b with
    | true =>
      rw [if_pos rfl]
      refine h1 rfl G4 σ3 H4 _ (eo3.mono s4.same) sp4 fun y ya G5 M5 H5 s5 ry sp5 w5 => ?_
      have s35 := (s3.trans s4).trans s5
      obtain ⟨hd5, md5, gd5⟩ := s35.fr D _ hd md
      refine ⟨av, hd5, Nat.lt_of_lt_of_le (Nat.lt_of_le_of_lt (by rw [rlAll_len rl]; exact la) hi) (by decide), G5, M5, acc ++ [ya], av ++ [y], ?_, ?_, upd_same, rlAll_app (RlAll.mono s35.same rl) (.cons ry .nil), md5, gd5 gd, by simp; exact la, w5⟩
      · refine ⟨(st.trans s35).same, fun b o e m => ?_⟩
        obtain ⟨q1, q2, q3⟩ := (st.trans s35).fr b o e m
        exact ⟨by rw [upd_ne (ne_of_none e hD)]; exact q1, q2, q3⟩
      · exact sp5.other (gd5 gd) md5
    | false =>
      rw [if_neg Bool.false_ne_true]
      have s34 := s3.trans s4
      obtain ⟨hd4, md4, gd4⟩ := s34.fr D _ hd md
      exact ⟨G4, M4, acc, av, st.trans s34, sp4, hd4, RlAll.mono s34.same rl, md4, gd4 gd, by omega, h2 rfl⟩
theorem ee_lc {ti : TI} {g : TG} {tt : TT} {te : TE} {vs : List Nat} {R : KV} (hv : Only g vs) (h : EI K ti env M fun items C M1 => items.length ≤ 100000 ∧ ∃ W : WdC, W 0 [] M1 ∧ (∀ i acc M2, W i acc M2 → C M2) ∧
      (∀ (i : Nat) a, items[i]? = some a → TurnC K g tt te (wipeE env vs) W i a) ∧ (∀ acc M2, acc.length ≤ items.length → W items.length acc M2 → EndC R acc M2)) : EE K (tLc ti g tt te vs) env M R := fun F σ H Q eo s c =>
  h F σ H _ eo s fun J G1 M1 H1 C items e1 ⟨Gd, Y, w, fd, ft⟩ s1 ⟨hl, W, w0, wc, ws, wd⟩ => by
    intro D hD
    refine lc_it w (PvC K G1 M1 H1 D W) (pvc_start s1 hD w0) ?_ ?_ ?_
    · rintro i H2 _ ⟨G, M, acc, av, st, sp, _, _, _, _, _, w2⟩
      exact fd G M H2 st.same sp (wc i acc M w2)
    · rintro i v H2 H3 hi ⟨G, M, acc, av, st, sp, hd, rl, md, gd, la, w2⟩ y
      obtain ⟨a, ha⟩ : ∃ a, items[i]? = some a := ⟨items[i], by simp [hi]⟩
      obtain ⟨G3, s3, ra, sp3⟩ := ft i a G M H2 v H3 st.same sp (wc i acc M w2) ha y
      obtain ⟨hd3, _, gd3⟩ := s3.fr D _ hd md
      exact pvc_turn2 (by omega) hv (eo.mono e1.same) hD (ws i a ha) (st.trans s3) sp3 hd3 (RlAll.mono s3.same rl) md (gd3 gd) la w2 ra
    · intro H2 pv
      exact pvc_end hD (c.later e1) wd pv
/-! ### what is walked -/
theorem same_self : Same F F := Same.refl F
theorem ei_list {tl : TE} {R : List AV → (MH → Prop) → MH → Prop} (h : EE K tl env M fun a M1 => ∃ ds, a = .d (.list ds) ∧ R (ds.map AV.d) (fun _ => True) M1) : EI K (iList K tl) env M R := fun F σ H Q eo s c =>
  h F σ H _ eo s fun v a G1 M1 H1 e1 ra s1 ⟨ds, ea, r1⟩ => by
    subst ea
    obtain ⟨p, xs, rfl, hp, r⟩ := dp_lst ra
    refine ⟨p, rfl, ⟨xs, .inl (.inl (s1.ex _ _ hp))⟩, c _ G1 M1 H1 _ _ e1 ⟨fun H => SqL K H p xs, YAt xs, ?_, fun G M H e s _ => .inl (.inl (s.ex _ _ (e _ _ hp))), ?_⟩ s1 r1⟩
    · rw [List.length_map, ← dpAll_len r]
      exact walk_list
    · rintro i a G M H v H' e s _ ha ⟨rfl, hx⟩
      obtain ⟨y, h1, h2⟩ := dtAll_at r hx
      rw [List.getElem?_map, h1] at ha
      cases ha
      exact ⟨G, Step.refl, rl_d (dp_mono e h2), s⟩
/-- a list that may change, and stands while the loop runs -/
theorem ei_listM {tl : TE} {R : List AV → (MH → Prop) → MH → Prop} (h : EE K tl env M fun a M1 => ∃ l as, a = .m l ∧ M1 l = some (.lst as) ∧ R as (fun M2 => M2 l = some (.lst as)) M1) : EI K (iList K tl) env M R := fun F σ H Q eo s c =>
  h F σ H _ eo s fun v a G1 M1 H1 e1 ra s1 ⟨l, as, ea, hm, r1⟩ => by
    subst ea
    have ra' : v = .ref l := ra
    subst ra'
    obtain ⟨_, xs, hx, rl⟩ := s1.mo l _ hm
    refine ⟨l, rfl, ⟨xs, .inl (.inl hx)⟩, c _ G1 M1 H1 _ as e1 ⟨fun H => ∃ xs, SqL K H l xs ∧ xs.length = as.length, fun i H x H' => H' = H ∧ ∀ xs, SqL K H l xs → xs[i]? = some x, ?_, ?_, ?_⟩ s1 r1⟩
    · refine ⟨fun i H hi ⟨xs, q, e⟩ => ⟨xs, xs[i], q, by simp [show i < xs.length by omega]⟩, fun H ⟨xs, q, e⟩ => ⟨xs, q, by omega⟩, fun i H x H' hi ⟨xs, q, e⟩ y => ⟨y.1, fun ys q' => y.2 ys q'⟩⟩
    · intro G M H e s hC
      obtain ⟨_, ys, hy, ry⟩ := s.mo l _ hC
      exact ⟨ys, .inl (.inl hy), rlAll_len ry⟩
    · rintro i a G M H v H' e s hC ha ⟨rfl, hx⟩
      obtain ⟨_, ys, hy, ry⟩ := s.mo l _ hC
      obtain ⟨u, h1, h2⟩ := rlAll_get ry ha
      have := hx ys (.inl (.inl hy))
      rw [h1] at this
      cases this
      exact ⟨G, Step.refl, h2, s⟩
theorem ei_tup {tl : TE} {R : List AV → (MH → Prop) → MH → Prop} (h : EE K tl env M fun a M1 => ∃ ds, a = .d (.tuple ds) ∧ R (ds.map AV.d) (fun _ => True) M1) : EI K (iTup K tl) env M R := fun F σ H Q eo s c =>
  h F σ H _ eo s fun v a G1 M1 H1 e1 ra s1 ⟨ds, ea, r1⟩ => by
    subst ea
    obtain ⟨p, xs, rfl, hp, r⟩ := dp_tup ra
    refine ⟨p, rfl, ⟨xs, sqT_mono s1.ex hp⟩, c _ G1 M1 H1 _ _ e1 ⟨fun H => SqT K H p xs, YAt xs, ?_, fun G M H e s _ => sqT_mono s.ex (sqT_mono e hp), ?_⟩ s1 r1⟩
    · rw [List.length_map, ← dpAll_len r]
      exact walk_tup
    · rintro i a G M H v H' e s _ ha ⟨rfl, hx⟩
      obtain ⟨y, h1, h2⟩ := dtAll_at r hx
      rw [List.getElem?_map, h1] at ha
      cases ha
      exact ⟨G, Step.refl, rl_d (dp_mono e h2), s⟩
def signs (z : Str) : List PyData := z.cps.toList.map fun c => PyData.str ⟨#[c]⟩
theorem ei_str {tl : TE} {R : List AV → (MH → Prop) → MH → Prop} (h : EE K tl env M fun a M1 => ∃ z, a = .d (.str z) ∧ R ((signs z).map AV.d) (fun _ => True) M1) : EI K (iStr tl) env M R := fun F σ H Q eo s c =>
  h F σ H _ eo s fun v a G1 M1 H1 e1 ra s1 ⟨z, ea, r1⟩ => by
    subst ea
    obtain rfl := dp_str ra
    refine ⟨z, rfl, c _ G1 M1 H1 _ _ e1 ⟨fun _ => True, fun i H v H' => H' = H ∧ ∃ c, z.cps[i]? = some c ∧ v = .str ⟨#[c]⟩, ?_, fun _ _ _ _ _ _ => trivial, ?_⟩ s1 r1⟩
    · have e : ((signs z).map AV.d).length = z.cps.size := by simp [signs]
      rw [e]
      exact walk_str
    · rintro i a G M H v H' e s _ ha ⟨rfl, c, hc, rfl⟩
      have hc2 : z.cps.toList[i]? = some c := by simpa using hc
      simp only [signs, List.getElem?_map, hc2, Option.map_some, Option.some.injEq] at ha
      subst ha
      exact ⟨G, Step.refl, rl_d (.str _), s⟩
def upto (n : Nat) (lo : Int) : List PyData := (List.range n).map fun i => PyData.int (lo + (i : Nat))
theorem feeds_range {lo : Int} {n : Nat} : Feeds K (Itr lo n) F (fun _ => True) ((upto n lo).map AV.d) := by
  refine ⟨fun _ => True, YFn fun i => .int (lo + i), ?_, fun _ _ _ _ _ _ => trivial, ?_⟩
  · have e : ((upto n lo).map AV.d).length = n := by simp [upto]
    rw [e]
    exact walk_range
  · rintro i a G M H v H' e s _ ha ⟨rfl, rfl⟩
    have hi : i < n := by
      have := (List.getElem?_eq_some_iff.mp ha).1
      simpa [upto] using this
    simp only [upto, List.getElem?_map, List.getElem?_range hi, Option.map_some, Option.some.injEq] at ha
    subst ha
    exact ⟨G, Step.refl, rl_d (.int _), s⟩
theorem ei_r1 {ta : TA} {R : List AV → (MH → Prop) → MH → Prop} (h : EA K ta env M fun as M1 => ∃ n : Int, as = [.d (.int n)] ∧ (-(2 ^ 62) ≤ n ∧ n < 2 ^ 62) ∧ R ((upto n.toNat 0).map AV.d) (fun _ => True) M1) : EI K (iRng1 ta) env M R := fun F σ H Q eo s c =>
  h F σ H _ eo s fun vs as G1 M1 H1 e1 ra s1 ⟨n, ea, hn, r1⟩ => by
    subst ea
    obtain ⟨x, rfl, rx⟩ := rla1 ra
    obtain rfl := dp_int rx
    exact ⟨n, rfl, hn.1, hn.2, c _ G1 M1 H1 _ _ e1 feeds_range s1 r1⟩
theorem ei_r2 {ta : TA} {R : List AV → (MH → Prop) → MH → Prop} (h : EA K ta env M fun as M1 => ∃ lo n : Int, as = [.d (.int lo), .d (.int n)] ∧ (-(2 ^ 62) ≤ lo ∧ lo < 2 ^ 62 ∧ -(2 ^ 62) ≤ n ∧ n < 2 ^ 62) ∧ R ((upto (n - lo).toNat lo).map AV.d) (fun _ => True) M1) :
    EI K (iRng2 ta) env M R := fun F σ H Q eo s c =>
  h F σ H _ eo s fun vs as G1 M1 H1 e1 ra s1 ⟨lo, n, ea, hn, r1⟩ => by
    subst ea
    obtain ⟨x, y, rfl, rx, ry⟩ := rla2 ra
    obtain rfl := dp_int rx
    obtain rfl := dp_int ry
    exact ⟨lo, n, rfl, hn, c _ G1 M1 H1 _ _ e1 feeds_range s1 r1⟩
/-- a new pair of data -/
theorem pair_step {x y : V} {d e : PyData} {T : Addr} (s : Sep K G M H) (h : H T = none) (rx : Dt K G x d) (ry : Dt K G y e) :
    ∃ G', Step G M H G' M (upd H T (.tup [x, y])) ∧ Rl K G' (.ref T) (.d (.tuple [d, e])) ∧ Sep K G' M (upd H T (.tup [x, y])) :=
  ⟨upd G T (.tup [x, y]), Step.new s h, rl_d (.tup (.inl (.inl upd_same)) (.cons (dp_mono (same_new (s.fnone h)) rx) (.cons (dp_mono (same_new (s.fnone h)) ry) .nil))), s.new h⟩
def places (ds : List PyData) : List PyData := (List.range ds.length).map fun i => .tuple [.int (i : Nat), ds.getD i .none]
theorem ei_enumT {ta : TA} {R : List AV → (MH → Prop) → MH → Prop} (h : EA K ta env M fun as M1 => ∃ ds, as = [.d (.tuple ds)] ∧ R ((places ds).map AV.d) (fun _ => True) M1) : EI K (iEnumT K ta) env M R := fun F σ H Q eo s c =>
  h F σ H _ eo s fun vs as G1 M1 H1 e1 ra s1 ⟨ds, ea, r1⟩ => by
    subst ea
    obtain ⟨x, rfl, rx⟩ := rla1 ra
    obtain ⟨p, xs, rfl, hp, r⟩ := dp_tup rx
    have hl := dpAll_len r
    refine ⟨p, xs, rfl, sqT_mono s1.ex hp, c _ G1 M1 H1 _ _ e1 ⟨fun H => SqT K H p xs, YPair (fun i => some (.int (i : Nat))) (fun i => xs[i]?), ?_, fun G M H e s _ => sqT_mono s.ex (sqT_mono e hp), ?_⟩ s1 r1⟩
    · have e : ((places ds).map AV.d).length = xs.length := by simp [places, hl]
      rw [e]
      refine ⟨fun i _ hi q => ⟨xs, xs[i], q, by simp [hi]⟩, fun _ q => ⟨xs, q, rfl⟩, fun i H v H' _ q y => ?_⟩
      obtain ⟨T, x, h1, h2, h3, h4⟩ := y
      exact ⟨T, .int (i : Nat), x, h1, h2, h3, rfl, h4 xs q⟩
    · rintro i a G M H v H' e s _ ha ⟨T, x, y, rfl, hT, rfl, hx, hy⟩
      cases hx
      obtain ⟨d, h1, h2⟩ := dtAll_at r hy
      have hi : i < ds.length := (List.getElem?_eq_some_iff.mp h1).1
      simp only [places, List.getElem?_map, List.getElem?_range hi, Option.map_some, Option.some.injEq, List.getD_eq_getElem?_getD, h1, Option.getD_some] at ha
      subst ha
      exact pair_step s hT (.int _) (dp_mono e h2)
def couples (ds es : List PyData) : List PyData := (ds.zip es).map fun p => .tuple [p.1, p.2]
theorem ei_zipT {ta : TA} {R : List AV → (MH → Prop) → MH → Prop} (h : EA K ta env M fun as M1 => ∃ ds es, as = [.d (.tuple ds), .d (.tuple es)] ∧ R ((couples ds es).map AV.d) (fun _ => True) M1) : EI K (RZ.iZipA K ta) env M R := fun F σ H Q eo s c =>
  h F σ H _ eo s fun vs as G1 M1 H1 e1 ra s1 ⟨ds, es, ea, r1⟩ => by
    subst ea
    obtain ⟨x, y, rfl, rx, ry⟩ := rla2 ra
    obtain ⟨p, xs, rfl, hp, r⟩ := dp_tup rx
    obtain ⟨q, ys, rfl, hq, r2⟩ := dp_tup ry
    have hl := dpAll_len r
    have hl2 := dpAll_len r2
    refine ⟨p, q, xs, ys, rfl, .inr ⟨sqT_mono s1.ex hp, sqT_mono s1.ex hq, c _ G1 M1 H1 _ _ e1 ⟨fun H => SqT K H p xs ∧ SqT K H q ys, YPair (fun i => xs[i]?) (fun i => ys[i]?), ?_, fun G M H e s _ => ⟨sqT_mono s.ex (sqT_mono e hp), sqT_mono s.ex (sqT_mono e hq)⟩, ?_⟩ s1 r1⟩⟩
    · have e : ((couples ds es).map AV.d).length = min xs.length ys.length := by simp [couples, hl, hl2]
      rw [e]
      refine ⟨fun i _ hi q => ⟨xs, ys, xs[i]'(by omega), ys[i]'(by omega), q.1, q.2, by simp [show i < xs.length by omega], by simp [show i < ys.length by omega]⟩, fun _ q => ⟨xs, ys, q.1, q.2, by omega⟩, fun i H v H' _ q y => ?_⟩
      obtain ⟨T, x, y, h1, h2, h3, h4, h5⟩ := y
      exact ⟨T, x, y, h1, h2, h3, h4 xs q.1, h5 ys q.2⟩
    · rintro i a G M H v H' e s _ ha ⟨T, x, y, rfl, hT, rfl, hx, hy⟩
      obtain ⟨d, h1, h2⟩ := dtAll_at r hx
      obtain ⟨d2, h3, h4⟩ := dtAll_at r2 hy
      have z : (ds.zip es)[i]? = some (d, d2) := by simp [List.getElem?_zip_eq_some, h1, h3]
      simp only [couples, List.getElem?_map, z, Option.map_some, Option.some.injEq] at ha
      subst ha
      exact pair_step s hT (dp_mono e h2) (dp_mono e h4)
end DL

set_option Elab.async false
set_option linter.all false
set_option maxRecDepth 100000
set_option maxHeartbeats 4000000
/-! Tuples turned about; data compared with nothing; kinds; a written dict asked. -/
namespace PySem
open PySem.Spec PyProof.Rows L2
section
variable {prog : Program} {w : World} {A : Around} {E : Value → Shared → Prop} {s : Shared}
theorem backAdjust (n : Nat) : Builtin.Slice.sliceAdjust none none (-1) (n : Int) = ((n : Int) - 1, -1) := by
  unfold Builtin.Slice.sliceAdjust
  simp
theorem backPlaces (n : Nat) : Builtin.Slice.slicePlaces ((n : Int) - 1) (-1) (-1) = n := by
  unfold Builtin.Slice.slicePlaces
  by_cases h : n = 0
  · subst h; simp
  · simp [show (-1 : Int) < (n : Int) - 1 by omega]
theorem backApplied {sl : Addr} {t : Tok} {n : Nat} {Q : Int × Int × Nat → Shared → Prop} (hs : s.heap.IsSliceOf sl .none .none (.int (-1) t)) (h : Q ((n : Int) - 1, -1, n) s) :
    wpAny (model prog w) A (Builtin.Slice.sliceApplied (.ref sl) (pure (n : Int))) Q E s := by
  obtain ⟨os, hos, hcs, hds⟩ := id hs
  unfold Builtin.Slice.sliceApplied Builtin.Slice.sliceFields
  refine wpAny_bind (wpAny_bind (wpAny_field hos hds (x := .none) rfl (wpAny_bind (wpAny_field hos hds (x := .none) rfl (wpAny_bind (wpAny_field hos hds (x := .int (-1) t) rfl (wpAny_pure ?_)))))))
  refine wpAny_bind (HT.slicePart_ (.int _ _) ?_)
  show wpAny _ _ (if ((-1 : Int) == 0) = true then _ else _) _ _ s
  rw [if_neg (by decide)]
  refine wpAny_bind (HT.slicePart_ .none (wpAny_bind (HT.slicePart_ .none (wpAny_bind (wpAny_pure ?_)))))
  show wpAny _ _ (match Builtin.Slice.sliceAdjust none none (-1) (n : Int) with | (lo, hi) => pure (lo, (-1 : Int), Builtin.Slice.slicePlaces lo hi (-1))) _ _ s
  rw [backAdjust]
  show wpAny _ _ (pure ((n : Int) - 1, (-1 : Int), Builtin.Slice.slicePlaces ((n : Int) - 1) (-1) (-1))) _ _ s
  rw [backPlaces]
  exact wpAny_pure h
theorem backPick (xs : Array Value) : ((List.range xs.size).filterMap fun (m : Nat) => xs[((xs.size : Int) - 1 + (m : Int) * (-1)).toNat]?).toArray = xs.toList.reverse.toArray := by
  congr 1
  refine List.ext_getElem? fun i => ?_
  have all : ∀ l : List Nat, (∀ m ∈ l, m < xs.size) → (l.filterMap fun (m : Nat) => xs[((xs.size : Int) - 1 + (m : Int) * (-1)).toNat]?) = l.map fun m => xs.getD (xs.size - 1 - m) .none := by
    intro l
    induction l with
    | nil => intro _; rfl
    | cons m l ih =>
      intro h
      have hm := h m List.mem_cons_self
      have e : ((xs.size : Int) - 1 + (m : Int) * (-1)).toNat = xs.size - 1 - m := by omega
      have hlt : xs.size - 1 - m < xs.size := by omega
      rw [List.filterMap_cons, e, Array.getElem?_eq_getElem hlt]
      simp only [List.map_cons]
      rw [ih fun k hk => h k (List.mem_cons_of_mem _ hk)]
      simp [Array.getD, hlt]
  rw [all _ fun m hm => List.mem_range.mp hm, List.getElem?_map]
  by_cases hi : i < xs.size
  · rw [List.getElem?_range hi, List.getElem?_reverse (by simpa using hi)]
    have hlt : xs.size - 1 - i < xs.size := by omega
    simp [Array.getD, hlt]
  · rw [List.getElem?_eq_none (by simpa using hi), List.getElem?_eq_none (by simpa using hi)]
    rfl
theorem getTupleBack {t sl : Addr} {items : Array Value} {u : Tok} {Q : Value → Shared → Prop} (ht : IsTup s.heap t items) (hs : s.heap.IsSliceOf sl .none .none (.int (-1) u))
    (h : Q (.ref s.heap.objs.size) { s with heap := s.heap.push { cls := .type "tuple", data := .seq items.toList.reverse.toArray } }) (hsz : items.size ≤ sizeLine) : wpAny (model prog w) A (getItem (.ref t) (.ref sl)) Q E s := by
  have fits : sizeOk (.seq items.toList.reverse.toArray) := by
    show items.toList.reverse.toArray.size ≤ sizeLine
    simpa using hsz
  obtain ⟨os, hos, hcs, hds⟩ := id hs
  have hTs : s.TypeIs (.ref sl) "slice" := ⟨os, hos, hcs⟩
  unfold getItem
  try with_reducible refine wpAny_holding ?_
  first | refine wpAny_bind (wpAny_pure ?_) | skip
  refine wpAny_bind (wpAny_sequenceKey ht.typeIs (by decide) ?_)
  refine wpAny_bind (wpAny_callSpecial?_slot (name := Str.ofString "__getitem__") ht.typeIs PyProof.Rows.slot_tuple_getitem (wpAny_call_entry PyProof.Rows.slot_tuple_getitem ht.typeIs entry_tuple_getitem ?_ (args_tuple_getitem _ _)))
  show wpAny _ _ (Builtin.Tuple.tupleItemsOf (.ref t) >>= _) _ _ s
  refine wpAny_bind (tupleItemsOf_ ht (wpAny_bind (wpAny_typeOf hTs ?_)))
  rw [if_pos (by decide)]
  refine wpAny_bind (backApplied hs ?_)
  have no : ¬ ((((items.size : Int) - 1) == 0 && (-1 : Int) == 1 && items.size == items.size) = true) := by simp
  show wpAny _ _ (if (((items.size : Int) - 1) == 0 && (-1 : Int) == 1 && items.size == items.size) = true then _ else _) _ _ s
  rw [if_neg no, backPick]
  first
    | exact wpAny_bind (m := Builtin.Tuple.tupleExact _) (wpAny_newObj_type (wpAny_pure ⟨_, rfl, wpAny_pure h⟩) fits)
    | exact wpAny_bind (m := Builtin.Tuple.tupleExact _) (wpAny_newObj_type (wpAny_bind (wpAny_pure (wpAny_pure ⟨_, rfl, wpAny_pure h⟩))) fits)
    | exact wpAny_bind (wpAny_bind (m := Builtin.Tuple.tupleExact _) (wpAny_newObj_type (wpAny_pure (wpAny_pure ⟨_, rfl, wpAny_pure h⟩)) fits))
    | exact wpAny_bind (wpAny_bind (m := Builtin.Tuple.tupleExact _) (wpAny_newObj_type (wpAny_pure ⟨_, rfl, wpAny_pure h⟩) fits))
end
end PySem

namespace DL
open PySem PySem.Spec PyProof.Rows L2
section
variable {X : Cx}
def tRevT (K : PySem.W.Frag) (te : TE) : TE := fun σ H Q => te σ H fun x H1 => ∃ a xs, x = .ref a ∧ SqT K H1 a xs ∧ ∀ p, H1 p = none → Q (.ref p) (upd H1 p (.tup xs.reverse))
/-- t[::-1] of a tuple -/
theorem pe_revT {e : Expr} {te : TE} {k : Nat} {p1 p2 p3 pos : Pos} (he : PE X e te) : PE X (.Subscript e (.Slice none none (some (.UnaryOp .USub (.Constant (.int 1) k p1) p2)) p3) pos) (tRevT X.K te) := by
  constructor
  intro pins s σ H Q I h
  refine Subscript_ (thn (he.run pins s σ H _ I h) fun v s1 ⟨x, H1, I1, r1, a, xs, ex, hx, q⟩ => ?_)
  subst ex
  cases r1
  have back : PO X (some (.UnaryOp .USub (.Constant (.int 1) k p1) p2)) (tPart (tUn (rU fun i => .int (-i)) (tC (.int 1)))) := po_some (pe_un un_neg pe_int)
  refine wpAny_Slice (thn (po_none.run pins s1 σ H1 (fun o H2 => o = none ∧ H2 = H1) I1 ⟨rfl, rfl⟩) fun vl s2 ⟨l, H2, I2, pl, el, e2⟩ => ?_)
  subst el e2
  refine thn (po_none.run pins s2 σ H2 (fun o H3 => o = none ∧ H3 = H2) I2 ⟨rfl, rfl⟩) fun vu s3 ⟨u, H3, I3, pu, eu, e3⟩ => ?_
  subst eu e3
  refine thn (back.run pins s3 σ H3 (fun o H4 => o = some (-1) ∧ H4 = H3) I3 ⟨1, rfl, -1, rfl, rfl, rfl⟩) fun vs s4 ⟨o, H4, I4, ps, eo, e4⟩ => ?_
  subst eo e4
  cases pl
  cases pu
  cases ps with
  | int i t =>
    have I5 := I4.kept (h' := s4.heap.push { cls := .type "slice", data := .fields #[.none, .none, .int (-1) t] }) (t' := s4.toks) fun b ob q => Heap.get?_push_of_some _ q
    obtain ⟨its, r, ht, hz⟩ := I5.tuple hx
    have many := r.length
    refine tail_any (ops := [.ref a, .ref s4.heap.objs.size]) ht.typeIs PyProof.Rows.slot_tuple_getitem.lookup ?_ (by with_unfolding_all rfl)
    refine getTupleBack ht (Heap.IsSliceOf.new _ _ _ _) ?_ (by rw [List.size_toArray]; omega)
    refine ⟨.ref _, _, I5.laid (t' := s4.toks) (o := .tup xs.reverse) (fun b ob q => Heap.get?_push_of_some _ q) (Nat.le_refl _) ?_, rfl, q _ (I5.hok.fresh (Nat.le_refl _))⟩
    exact ⟨by rw [List.length_reverse]; exact hz, _, r.reverse, _, Heap.get?_push_size _ rfl, rfl, _, rfl⟩
/-- == of data, or of a list or a tuple and an empty one -/
def rEqX (K : PySem.W.Frag) : R2 := fun x y H Q => rEqD K x y H Q ∨ ∃ p q xs, x = .ref p ∧ y = .ref q ∧ (SqT K H p xs ∧ SqT K H q [] ∨ SqL K H p xs ∧ SqL K H q []) ∧ Q (.bl xs.isEmpty) H
theorem op_eqX (hu : X.A.units + 64 < cLine) : OpR X (compareOp .Eq) (rEqX X.K) := by
  intro pins s σ H x y v u Q I rx ry h
  rcases h with h | ⟨p, q, xs, rfl, rfl, h, k⟩
  · exact op_eqD hu pins s σ H x y v u Q I rx ry h
  · cases rx
    cases ry
    rcases h with ⟨h1, h2⟩ | ⟨h1, h2⟩
    · obtain ⟨its, r, ht, hz⟩ := I.tuple h1
      obtain ⟨its2, r2, ht2, _⟩ := I.tuple h2
      cases r2
      refine SeqAt.eq_tupleAt (e := fun _ => true) ht ht2 (by omega) (fun j _ h2 => absurd h2 (by simp)) ⟨.bl _, H, I, rfl, ?_⟩
      have e : ((List.range (min its.toArray.size ([] : List Value).toArray.size)).all (fun _ => true) && its.toArray.size == ([] : List Value).toArray.size) = xs.isEmpty := by
        cases r <;> simp
      rw [e]
      exact k
    · obtain ⟨its, r, ht, hz⟩ := I.list h1
      obtain ⟨its2, r2, ht2, _⟩ := I.list h2
      cases r2
      cases r with
      | nil => exact SeqAt.eq_listAt (e := fun _ => true) ht.isList ht2.isList rfl (by omega) (fun j h1 _ => absurd h1 (by simp)) ⟨.bl true, H, I, rfl, k⟩
      | cons _ _ => exact SeqAt.eq_list_lengthsAt ht.isList ht2.isList (by simp) (by omega) ⟨.bl false, H, I, rfl, k⟩
/-- d.get(x) of a written dict with text keys -/
def tKGet (K : PySem.W.Frag) (w : World) (td te : TE) : TE := fun σ H Q => td σ H fun x H1 => te σ H1 fun y H2 => ∃ (p : Addr) (z : Str), x = .ref p ∧ y = .str z ∧
  ((∃ v, KDct K w p z v ∧ Q v H2) ∨ (KMiss K w p z ∧ Q .non H2))
end
section
variable {K : PySem.W.Frag} {F G H : Hp} {M : MH} {σ : L2.St} {env : Env'}
theorem ee_revT {te : TE} {R : KV} (h : EE K te env M fun a M1 => ∃ ds, a = .d (.tuple ds) ∧ R (.d (.tuple ds.reverse)) M1) : EE K (tRevT K te) env M R := fun F σ H Q eo s c =>
  h F σ H _ eo s fun v a G1 M1 H1 e1 ra s1 ⟨ds, ea, h1⟩ => by
    subst ea
    obtain ⟨p, xs, rfl, hp, r⟩ := dp_tup ra
    refine ⟨p, xs, rfl, sqT_mono s1.ex hp, fun q hq => ?_⟩
    exact c _ _ (upd G1 q (.tup xs.reverse)) M1 _ (e1.trans (Step.new s1 hq)) (rl_d (.tup (.inl (.inl upd_same)) (dpAll_mono (same_new (s1.fnone hq)) (dpAll_rev r)))) (s1.new hq) h1
theorem rr_eqX {a b : AV} {x y : PyData} {R : KV} (ha : Rda M a x) (hb : Rda M b y) (hx : SeqAt.shaped x = true) (hy : SeqAt.shaped y = true) (k : R (.d (.bool (PyData.eqv x y))) M) : RR K (rEqX K) a b M R := fun F H u v Q ru rv s c =>
  .inl (rr_eqD ha hb hx hy k F H u v Q ru rv s c)
theorem rr_eq0T {ds : List PyData} {R : KV} (k : R (.d (.bool ds.isEmpty)) M) : RR K (rEqX K) (.d (.tuple ds)) (.d (.tuple [])) M R := fun F H u v Q ru rv s c => by
  obtain ⟨p, xs, rfl, hp, r⟩ := dp_tup ru
  obtain ⟨q, ys, rfl, hq, r2⟩ := dp_tup rv
  cases r2
  refine .inr ⟨p, q, xs, rfl, rfl, .inl ⟨sqT_mono s.ex hp, sqT_mono s.ex hq⟩, c _ _ F M H Step.refl (rl_d ?_) s k⟩
  cases r <;> exact .bl _
theorem rr_eq0L {a b : AV} {ds : List PyData} {R : KV} (ha : Rda M a (.list ds)) (hb : Rda M b (.list [])) (k : R (.d (.bool ds.isEmpty)) M) : RR K (rEqX K) a b M R := fun F H u v Q ru rv s c => by
  obtain ⟨p, xs, rfl, hp, r⟩ := ha.lst ru s
  obtain ⟨q, ys, rfl, hq, r2⟩ := hb.lst rv s
  cases r2
  refine .inr ⟨p, q, xs, rfl, rfl, .inr ⟨.inl (.inl hp), .inl (.inl hq)⟩, c _ _ F M H Step.refl (rl_d ?_) s k⟩
  cases r <;> exact .bl _
/-! ### kinds -/
def kindN : PyData → String
  | .none => "NoneType"
  | .bool _ => "bool"
  | .int _ => "int"
  | .str _ => "str"
  | .list _ => "list"
  | .tuple _ => "tuple"
  | .dict _ => "dict"
theorem ty_seqT {a : Addr} {xs : List V} (h : SqT K H a xs) : TyX K H (.ref a) (.type "tuple") := by
  rcases h with (h | ⟨o, h⟩) | ⟨o, vs, n, h, hc, _⟩
  · exact .base (.tup h)
  · exact .fTuple h
  · exact .kTuple h hc
theorem dt_ty {v : V} {x : PyData} (h : Dt K H v x) : TyX K H v (.type (kindN x)) := by
  cases h with
  | non => exact .base .non
  | bl b => exact .base (.bl b)
  | int i => exact .base (.int i)
  | str z => exact .base (.str z)
  | lst h _ => exact .base (.lst h)
  | tup h _ => exact ty_seqT h
  | dic h => exact .base (.dK h)
/-- the name of a built-in type as a value -/
def isTy (n : String) : AV := .x fun v _ => v = .ty n
theorem ee_ty {n : String} {R : KV} (k : R (isTy n) M) : EE K (tC (.ty n)) env M R := fun F σ H Q eo s c => c (.ty n) (isTy n) F M H Step.refl (show Rl K F (.ty n) (isTy n) from fun _ _ => rfl) s k
def isTup : PyData → Bool
  | .tuple _ => true
  | _ => false
def isStr : PyData → Bool
  | .str _ => true
  | _ => false
def isList : PyData → Bool
  | .list _ => true
  | _ => false
def isBl : PyData → Bool
  | .bool _ => true
  | _ => false
def isInt : PyData → Bool
  | .bool _ => true
  | .int _ => true
  | _ => false
theorem kit_tup (x : PyData) : kitB (kindN x) "tuple" = some (isTup x) := by
  cases x
  · exact (by decide +kernel : kitB "NoneType" "tuple" = some false)
  · exact (by decide +kernel : kitB "bool" "tuple" = some false)
  · exact (by decide +kernel : kitB "int" "tuple" = some false)
  · exact (by decide +kernel : kitB "str" "tuple" = some false)
  · exact (by decide +kernel : kitB "list" "tuple" = some false)
  · exact (by decide +kernel : kitB "tuple" "tuple" = some true)
  · exact (by decide +kernel : kitB "dict" "tuple" = some false)
theorem kit_str (x : PyData) : kitB (kindN x) "str" = some (isStr x) := by
  cases x
  · exact (by decide +kernel : kitB "NoneType" "str" = some false)
  · exact (by decide +kernel : kitB "bool" "str" = some false)
  · exact (by decide +kernel : kitB "int" "str" = some false)
  · exact (by decide +kernel : kitB "str" "str" = some true)
  · exact (by decide +kernel : kitB "list" "str" = some false)
  · exact (by decide +kernel : kitB "tuple" "str" = some false)
  · exact (by decide +kernel : kitB "dict" "str" = some false)
theorem kit_list (x : PyData) : kitB (kindN x) "list" = some (isList x) := by
  cases x
  · exact (by decide +kernel : kitB "NoneType" "list" = some false)
  · exact (by decide +kernel : kitB "bool" "list" = some false)
  · exact (by decide +kernel : kitB "int" "list" = some false)
  · exact (by decide +kernel : kitB "str" "list" = some false)
  · exact (by decide +kernel : kitB "list" "list" = some true)
  · exact (by decide +kernel : kitB "tuple" "list" = some false)
  · exact (by decide +kernel : kitB "dict" "list" = some false)
theorem kit_bool (x : PyData) : kitB (kindN x) "bool" = some (isBl x) := by
  cases x
  · exact (by decide +kernel : kitB "NoneType" "bool" = some false)
  · exact (by decide +kernel : kitB "bool" "bool" = some true)
  · exact (by decide +kernel : kitB "int" "bool" = some false)
  · exact (by decide +kernel : kitB "str" "bool" = some false)
  · exact (by decide +kernel : kitB "list" "bool" = some false)
  · exact (by decide +kernel : kitB "tuple" "bool" = some false)
  · exact (by decide +kernel : kitB "dict" "bool" = some false)
theorem kit_int (x : PyData) : kitB (kindN x) "int" = some (isInt x) := by
  cases x
  · exact (by decide +kernel : kitB "NoneType" "int" = some false)
  · exact (by decide +kernel : kitB "bool" "int" = some true)
  · exact (by decide +kernel : kitB "int" "int" = some true)
  · exact (by decide +kernel : kitB "str" "int" = some false)
  · exact (by decide +kernel : kitB "list" "int" = some false)
  · exact (by decide +kernel : kitB "tuple" "int" = some false)
  · exact (by decide +kernel : kitB "dict" "int" = some false)
theorem rc_isi {a : AV} {x : PyData} {n : String} {b : Bool} {R : KV} (hk : kitB (kindN x) n = some b) (ha : Rda M a x) (k : R (.d (.bool b)) M) : RC K (rIsi K) [a, isTy n] M R := fun F H xs Q rs s c => by
  obtain ⟨v, u, rfl, rv, ru⟩ := rla2 rs
  obtain rfl : u = .ty n := ru F (Same.refl F)
  exact ⟨v, .ty n, _, _, b, rfl, .ty n, dt_ty (ha.dp rv s), kit_ty hk, c _ _ F M H Step.refl (rl_d (.bl _)) s k⟩
/-! ### a chain of comparisons, truth -/
theorem ee_chain {r r' : R2} {ta tb tc : TE} {R : KV} (h : EE K ta env M fun a M1 => EE K tb env M1 fun b M2 => RR K r a b M2 fun z M3 => ∃ k, z = .d (.bool k) ∧ (k = true → EE K tc env M3 fun c M4 => RR K r' b c M4 R) ∧ (k = false → R (.d (.bool false)) M3)) :
    EE K (tChain r r' ta tb tc) env M R := fun F σ H Q eo s c =>
  h F σ H _ eo s fun x a G1 M1 H1 e1 ra s1 h1 => h1 G1 σ H1 _ (eo.mono e1) s1 fun y b G2 M2 H2 e2 rb s2 h2 => h2 G2 H2 x y _ (ra.mono e2) rb s2 fun z za G3 M3 H3 e3 rz s3 ⟨k, ez, ht, hf⟩ => by
    subst ez
    obtain rfl := dp_bl rz
    refine ⟨k, rfl, ?_⟩
    cases k with
    | true => exact ht rfl G3 σ H3 _ (((eo.mono e1).mono e2.same).mono e3.same) s3 fun w' ca G4 M4 H4 e4 rc s4 h4 => h4 G4 H4 y w' Q ((rb.mono e3).mono e4.same) rc s4 (c.later (((e1.trans e2).trans e3).trans e4))
    | false => exact c _ _ G3 M3 H3 ((e1.trans e2).trans e3) (rl_d (.bl false)) s3 (hf rfl)
/-- whether data are true -/
def tru : PyData → Bool
  | .none => false
  | .bool b => b
  | .int i => i != 0
  | .str z => (z.length : Int) != 0
  | .list ds => !ds.isEmpty
  | .tuple ds => !ds.isEmpty
  | .dict kvs => !kvs.isEmpty
theorem dt_tru {v : V} {x : PyData} (hs : ∀ z, x = .str z → z.length ≤ 100000) (h : Dt K H v x) : TruV K v H (tru x) := by
  cases h with
  | non => rfl
  | bl b => rfl
  | int i => rfl
  | str z => exact ⟨Nat.le_trans (hs z rfl) (by decide), rfl⟩
  | lst h r => exact .inl ⟨_, .inl (.inl h), by cases r <;> rfl⟩
  | tup h r => exact .inr (.inl ⟨_, h, by cases r <;> rfl⟩)
  | dic h => exact .inr (.inr ⟨_, h, rfl⟩)
theorem et_truth {t : TE} {R : Bool → MH → Prop} (h : EE K t env M fun a M1 => ∃ x, Rda M1 a x ∧ (∀ z, x = .str z → z.length ≤ 100000) ∧ R (tru x) M1) : ET K (fun σ H Q => t σ H fun x H' => ∃ k, TruV K x H' k ∧ Q k H') env M R := fun F σ H Q eo s c =>
  h F σ H _ eo s fun v a G1 M1 H1 e1 ra s1 ⟨x, ha, hs, r1⟩ => ⟨tru x, dt_tru hs (ha.dp ra s1), c _ G1 M1 H1 e1 s1 r1⟩
end
end DL

set_option Elab.async false
set_option linter.all false
set_option maxRecDepth 100000
set_option maxHeartbeats 4000000
/-! Texts, dicts of ints, lists put together; a written dict asked. -/
namespace DL
open PySem PySem.Spec PyProof.Rows L2
section
variable {X : Cx}
/-- a written dict with text keys -/
def KAsk (K : PySem.W.Frag) (w : World) (a : Addr) (f : Str → V) : Prop := ∃ es n, K.lookup a = some ⟨.type "dict", none, .dict es n, #[]⟩ ∧ PySem.W.KeysLit w.params es.toList ∧ (a == sysModules) = false ∧
  ∀ z, L2.RelV (f z) ((findBy Value.isStrOf es z).getD .none)
def tAsk (a : Addr) (f : Str → V) (td te : TE) : TE := fun σ H Q => td σ H fun x H1 => x = .ref a ∧ te σ H1 fun y H2 => ∃ z : Str, y = .str z ∧ Q (f z) H2
theorem pe_ask {a : Addr} {f : Str → V} {o e : Expr} {td te : TE} {apos cpos : Pos} (A : KAsk X.K X.w a f) (ho : PE X o td) (he : PE X e te) (m : M1 X o "get" apos e cpos) : PE X (.Call (.Attribute o "get" apos) [e] [] cpos) (tAsk a f td te) := by
  constructor
  intro pins s σ H Q I h
  obtain ⟨es, n, hl, hk, low, hf⟩ := A
  refine wpAny_Call_method m.base m.few m.line PySem.F.plainAttrs_dict PySem.F.slot_dict_get PySem.F.type_dict_get (thn (ho.run pins s σ H _ I h) fun u s1 ⟨x, H1, I1, rx, ex, q1⟩ => ?_)
  subst ex
  obtain rfl : u = Value.ref a := rx
  have mo := PySem.W.mapOf_K (prog := X.prog) (w := X.w) I1.kIn hl hk
  refine ⟨mo.typeIs, fun b q => ?_, ?_⟩
  · cases q
    exact ⟨_, I1.kIn _ _ hl, rfl⟩
  rw [m.trees]
  refine Calls.callWith_builtin rfl (Calls.evalArgs_plain (Calls.spliced_cons (thn (he.run pins s1 σ H1 _ I1 q1) fun iv s2 ⟨y, H2, I2, ry, z, ey, q2⟩ => Calls.spliced_nil ?_)))
  subst ey
  obtain ⟨t, rfl⟩ := (show ∃ t, iv = Value.str z t from ry)
  have mo2 := PySem.W.mapOf_K (prog := X.prog) (w := X.w) I2.kIn hl hk
  refine call_meetsIn PySem.F.slot_dict_get mo2.typeIs PySem.F.entry_dict_get (PySem.F.args_dict_get_2 _ _) (meets_dict_get (strKind X.prog X.w) a (strKind_is X.prog X.w z t) low) ⟨_, mo2, ?_⟩
  exact ⟨f z, H2, I2.tok _, hf z, q2⟩
end
section
variable {K : PySem.W.Frag} {F G H : Hp} {M : MH} {σ : L2.St} {env : Env'}
theorem ee_ref {a : Addr} {R : KV} (k : R (.m a) M) : EE K (tC (.ref a)) env M R := fun F σ H Q eo s c => c (.ref a) (.m a) F M H Step.refl rl_m s k
theorem ee_ask {w : World} {a : Addr} {f : Str → V} {g : Str → PyData} {td te : TE} {R : KV} (hg : ∀ (K : PySem.W.Frag) (F : Hp) z, Dt K F (f z) (g z)) (h : EE K td env M fun o M1 => o = .m a ∧ EE K te env M1 fun y M2 => ∃ z, y = .d (.str z) ∧ R (.d (g z)) M2) :
    EE K (tAsk a f td te) env M R := fun F σ H Q eo s c =>
  h F σ H _ eo s fun v o G1 M1 H1 e1 ra s1 ⟨eo1, h1⟩ => by
    subst eo1
    refine ⟨ra, h1 G1 σ H1 _ (eo.mono e1) s1 fun y b G2 M2 H2 e2 rb s2 ⟨z, eb, q⟩ => ?_⟩
    subst eb
    exact ⟨z, dp_str rb, c _ _ G2 M2 H2 (e1.trans e2) (rl_d (hg K G2 z)) s2 q⟩
theorem ee_dnew0 {R : KV} (k : R (.d (.dict [])) M) : EE K tDNewK env M R := fun F σ H Q eo s c p hp =>
  c _ _ (upd F p (.dK [])) M _ (Step.new s hp) (rl_d (.dic upd_same)) (s.new hp) k
theorem ee_dnewM {R : KV} (k : ∀ l, M l = none → R (.m l) (updM M l (.dct []))) : EE K tDNewK env M R := fun F σ H Q eo s c p hp =>
  c _ _ F _ _ (Step.newM hp) rl_m (s.newM (mo := .dct []) hp ⟨[], upd_same, .nil⟩) (k p (s.mnone hp))
theorem rc_ord {c : Nat} {R : KV} (k : R (.d (.int (c : Nat))) M) : RC K (fun xs H Q => ∃ x, xs = [.str x] ∧ x.length = 1 ∧ Q (.int (x.cps.getD 0 0 : Nat)) H) [.d (.str ⟨#[c]⟩)] M R := fun F H xs Q rs s c' => by
  obtain ⟨v, rfl, rv⟩ := rla1 rs
  obtain rfl := dp_str rv
  exact ⟨_, rfl, rfl, c' _ _ F M H Step.refl (rl_d (.int _)) s k⟩
theorem rr_ixS {z : Str} {i : Int} {c : Nat} {R : KV} (hz : z.length ≤ 100000) (h : atI z.cps.toList i = some c) (k : R (.d (.str ⟨#[c]⟩)) M) : RR K (rIx K) (.d (.str z)) (.d (.int i)) M R := fun F H u v Q ru rv s c' => by
  obtain rfl := dp_str ru
  obtain rfl := dp_int rv
  exact .inr (.inr ⟨z, i, c, rfl, rfl, Nat.le_trans hz (by decide), h, c' _ _ F M H Step.refl (rl_d (.str _)) s k⟩)
def rNSign : R2 := fun x y H Q => ∃ (c : Nat) (z : Str), x = .str ⟨#[c]⟩ ∧ y = .str z ∧ Q (.bl (!decide (c ∈ z.cps.toList))) H
theorem rr_nsign {c : Nat} {z : Str} {R : KV} (k : R (.d (.bool (!decide (c ∈ z.cps.toList)))) M) : RR K rNSign (.d (.str ⟨#[c]⟩)) (.d (.str z)) M R := fun F H u v Q ru rv s c' => by
  obtain rfl := dp_str ru
  obtain rfl := dp_str rv
  exact ⟨c, z, rfl, rfl, c' _ _ F M H Step.refl (rl_d (.bl _)) s k⟩
def rJoin (K : PySem.W.Frag) : V → List V → Hp → VK → Prop := fun x xs H Q => ∃ a p, ∃ ys : List Str, x = .str a ∧ xs = [.ref p] ∧ (SqL K H p (ys.map V.str) ∨ SqT K H p (ys.map V.str)) ∧ (ys.map (·.length)).sum + ys.length * a.length ≤ 16777216 ∧ Q (.str (Txt.join a ys)) H
theorem ee_join {ta te : TE} {R : KV} (h : EE K ta env M fun a M1 => ∃ z, a = .d (.str z) ∧ EE K te env M1 fun b M2 => ∃ ys : List Str, Rda M2 b (.list (ys.map PyData.str)) ∧ (ys.map (·.length)).sum + ys.length * z.length ≤ 100000 ∧ R (.d (.str (Txt.join z ys))) M2) :
    EE K (tBM K "str" (rJoin K) ta (tCons te tNil)) env M R := fun F σ H Q eo s c =>
  h F σ H _ eo s fun v a G1 M1 H1 e1 ra s1 ⟨z, ea, h1⟩ => by
    subst ea
    obtain rfl := dp_str ra
    refine ⟨rfl, h1 G1 σ H1 _ (eo.mono e1) s1 fun y b G2 M2 H2 e2 rb s2 ⟨ys, hb, hl, q⟩ => ?_⟩
    obtain ⟨p, xs, rfl, hp, r⟩ := hb.lst rb s2
    obtain rfl := dpAll_strs r
    exact ⟨z, p, ys, rfl, rfl, .inl (.inl (.inl hp)), Nat.le_trans hl (by decide), c _ _ G2 M2 H2 (e1.trans e2) (rl_d (.str _)) s2 q⟩
theorem rr_rep {a : AV} {ds : List PyData} {n : Int} {R : KV} (ha : Rda M a (.list ds)) (h0 : 0 ≤ n) (hl : ds.length * n.toNat ≤ 100000) (hn : n ≤ 100000) (k : R (.d (.list (List.replicate n.toNat ds).flatten)) M) : RR K rRep a (.d (.int n)) M R := fun F H x y Q rx ry s c => by
  obtain ⟨p, xs, rfl, hp, r⟩ := ha.lst rx s
  obtain rfl := dp_int ry
  refine ⟨p, n, xs, rfl, rfl, hp, by omega, by omega, Nat.le_trans (by rw [dpAll_len r]; exact hl) (by decide), fun z hz => ?_⟩
  have rep : ∀ m : Nat, DtAll K F (List.replicate m xs).flatten (List.replicate m ds).flatten := by
    intro m
    induction m with
    | zero => exact .nil
    | succ m ih =>
      simp only [List.replicate_succ, List.flatten_cons]
      exact dpAll_app r ih
  exact c _ _ (upd F z (.lst (List.replicate n.toNat xs).flatten)) M _ (Step.new s hz) (rl_d (.lst upd_same (dpAll_mono (same_new (s.fnone hz)) (rep n.toNat)))) (s.new hz) k
theorem rr_catM {a b : AV} {as bs : List PyData} {R : KV} (ha : Rda M a (.list as)) (hb : Rda M b (.list bs)) (hl : as.length + bs.length ≤ 100000) (k : ∀ l, M l = none → R (.m l) (updM M l (.lst ((as ++ bs).map AV.d)))) : RR K rCat a b M R := fun F H x y Q rx ry s c => by
  obtain ⟨p, xs, rfl, hp, r⟩ := ha.lst rx s
  obtain ⟨q, ys, rfl, hq, r'⟩ := hb.lst ry s
  have l1 := dpAll_len r
  have l2 := dpAll_len r'
  exact ⟨p, q, xs, ys, rfl, rfl, hp, hq, Nat.le_trans (by rw [l1, l2]; exact hl) (by decide), fun z hz => c _ _ F _ _ (Step.newM hz) rl_m (s.newM (mo := .lst ((as ++ bs).map AV.d)) hz ⟨xs ++ ys, upd_same, rlAll_d (dpAll_app r r')⟩) (k z (s.mnone hz))⟩
theorem ss_dputI {td ty tv : TE} {P : Post} (h : EE K tv env M fun c M1 => EE K td env M1 fun a M2 => ∃ l, a = .m l ∧ EE K ty env M2 fun b M3 => ∃ kvs x, b = .d (.int x) ∧ M3 l = some (.dct kvs) ∧ kvs.length < 1000 ∧ P.nx env (updM M3 l (.dct (putA kvs (.inl x) c)))) : SS K (sDPut td ty tv) env M P := fun F σ H D eo s c =>
  h F σ H _ eo s fun v cc G1 M1 H1 e1 rc s1 h1 => h1 G1 σ H1 _ (eo.mono e1) s1 fun w a G2 M2 H2 e2 ra s2 ⟨l, ea, h2⟩ => by
    subst ea
    have ra' : w = .ref l := ra
    subst ra'
    refine h2 G2 σ H2 _ (eo.mono (e1.trans e2)) s2 fun y b G3 M3 H3 e3 rb s3 ⟨kvs, x, eb, m3, hl, q⟩ => ?_
    subst eb
    obtain rfl := dp_int rb
    obtain ⟨_, ws, hw, rs⟩ := s3.mo _ _ m3
    refine ⟨l, _, rfl, DPut.k (k := Sum.inl x) hw (Nat.lt_of_lt_of_le (by rw [paired_len rs]; exact hl) (by decide)), ?_⟩
    exact c.nx _ _ G3 _ _ (((e1.trans e2).trans e3).trans (Step.set m3)) (eo.mono ((e1.trans e2).trans e3).same) (s3.set m3 (mo' := .dct (putA kvs (.inl x) cc)) ⟨_, upd_same, rlk_put rs (rc.mono (e2.trans e3)) _⟩) q
def rSortDI : List V → Hp → VK → Prop := fun xs H Q => ∃ (a : Addr) (kvs : List (Key × V)) (ks : List Int), xs = [.ref a] ∧ Rd H a (.dK kvs) ∧ kvs.map (·.1) = ks.map Sum.inl ∧ ks.length < 64 ∧
    ∀ (ys : List Int) (p : Addr), ys.Perm ks → ys.Pairwise (· ≤ ·) → H p = none → Q (.ref p) (upd H p (.lst (ys.map V.int)))
theorem rc_sortDI {l : Addr} {kvs : List (Key × AV)} {ks : List Int} {R : KV} (hm : M l = some (.dct kvs)) (hk : kvs.map (·.1) = ks.map Sum.inl) (hl : ks.length < 64) (k : ∀ ys : List Int, ys.Perm ks → ys.Pairwise (· ≤ ·) → R (.d (.list (ys.map PyData.int))) M) :
    RC K rSortDI [.m l] M R := fun F H xs Q rs s c => by
  obtain ⟨v, rfl, rv⟩ := rla1 rs
  have rv' : v = .ref l := rv
  subst rv'
  obtain ⟨_, ws, hw, rel⟩ := s.mo _ _ hm
  have e : ws.map (·.1) = kvs.map (·.1) := by
    clear hw hk hm
    induction rel with
    | nil => rfl
    | cons h _ ih => simp [h.1, ih]
  exact ⟨l, ws, ks, rfl, .inl hw, e.trans hk, hl, fun ys p h1 h2 hp => c _ _ (upd F p (.lst (ys.map V.int))) M _ (Step.new s hp) (rl_d (.lst upd_same (dtAll_ints ys))) (s.new hp) (k ys h1 h2)⟩
theorem rc_listT {ds : List PyData} {R : KV} (k : R (.d (.list ds)) M) : RC K (fun xs H Q => ∃ p ys, xs = [.ref p] ∧ (SqL K H p ys ∨ SqT K H p ys) ∧ ∀ l, H l = none → Q (.ref l) (upd H l (.lst ys))) [.d (.tuple ds)] M R := fun F H xs Q rs s c => by
  obtain ⟨v, rfl, rv⟩ := rla1 rs
  obtain ⟨p, ys, rfl, hp, r⟩ := dp_tup rv
  exact ⟨p, ys, rfl, .inr (sqT_mono s.ex hp), fun l hl => c _ _ (upd F l (.lst ys)) M _ (Step.new s hl) (rl_d (.lst upd_same (dpAll_mono (same_new (s.fnone hl)) r))) (s.new hl) k⟩
/-- a script, as it came -/
def asScript (ns : List Int) (a : Addr) (K : PySem.W.Frag) : AV := .x fun v H => v = .ref a ∧ SqL K H a (ns.map V.int)
theorem rs_script {ns : List Int} {a : Addr} {lo hi : Option Int} {R : KV} (k : R (.d (.list ((cutL ns lo hi).map PyData.int))) M) : RS K (rSlL K) (asScript ns a K) lo hi M R := fun F H x Q rx s c => by
  obtain ⟨rfl, hq⟩ : x = .ref a ∧ SqL K H a (ns.map V.int) := rx H s.ex
  refine ⟨a, ns.map V.int, rfl, hq, fun p hp => ?_⟩
  have e : cutV (ns.map V.int) lo hi = (cutL ns lo hi).map V.int := by
    unfold cutV cutL
    simp
  rw [e]
  exact c _ _ (upd F p (.lst ((cutL ns lo hi).map V.int))) M _ (Step.new s hp) (rl_d (.lst upd_same (dtAll_ints _))) (s.new hp) k
theorem rr_inS2 {z : Str} {xs : List Str} {R : KV} (k : R (.d (.bool (xs.any fun y => decide (y = z)))) M) : RR K (rIn K false) (.d (.str z)) (.d (.tuple (xs.map PyData.str))) M R := fun F H u v Q ru rv s c => by
  obtain rfl := dp_str ru
  obtain ⟨p, ys, rfl, hp, r⟩ := dp_tup rv
  obtain rfl := dpAll_strs r
  have hf : (xs.map V.str).all flatV = true := by simp [flatV]
  refine ⟨p, xs.map V.str, rfl, .inr (sqT_mono s.ex hp), rfl, hf, ?_⟩
  have e : inV (.str z) (xs.map V.str) = (xs.any fun y => decide (y = z)) := by
    unfold inV
    rw [List.any_map]
    rfl
  show Q (.bl (inV (.str z) (xs.map V.str))) H
  rw [e]
  exact c _ _ F M H Step.refl (rl_d (.bl _)) s k
end
end DL

set_option Elab.async false
set_option linter.all false
set_option maxRecDepth 100000
set_option maxHeartbeats 4000000
/-! == of data and a text. -/
namespace PySem
open Sem (wp)
open AutoSeq1 (wpAny_loadPart')
theorem dictEqStr (l : Addr) (o : Obj) (b : Str) (u : Tok) (hc : o.cls = .type "dict") :
    Meets (Builtin.«dict.__eq__» ⟨[.ref l, .str b u], []⟩) (fun _ R s => s.heap.get? l = some o ∧ R (.ok (.ret .notImplemented)) s) :=
  .of_wp fun prog w A R s h => by
    obtain ⟨hp, g, d, tk, os⟩ := s
    obtain ⟨hl, h⟩ := h
    obtain ⟨cl, dd, dt, sl⟩ := o
    have f1 := F.sub_str_dict
    wp_walk using wpAny_loadPart' hl
    exact ⟨_, rfl, h⟩
theorem strEqDict (b : Str) (u : Tok) (l : Addr) (c : Value) (es : Array DictEntry) (n : Nat) (dd : Option Addr) (sl : Array (Option Value)) :
    Meets (Builtin.«str.__eq__» ⟨[.str b u, .ref l], []⟩) (fun _ R s => s.heap.get? l = some { cls := c, dict := dd, data := .dict es n, slots := sl } ∧ R (.ok (.ret .notImplemented)) s) :=
  .of_wp fun prog w A R s h => by
    obtain ⟨hp, g, d, tk, os⟩ := s
    obtain ⟨hl, h⟩ := h
    wp_walk using wpAny_loadPart' hl, wpAny_load hl
    exact ⟨_, rfl, h⟩
theorem rcDictStr {A : Around} {s : Shared} {l : Addr} {o : Obj} {es : Array DictEntry} {n : Nat} (b : Str) (u : Tok) (ho : s.heap.get? l = some o) (hc : o.cls = .type "dict") (hd : o.data = .dict es n) (hu : A.units < cLine) : SeqAt.RcAt A s (.ref l) (.str b u) false := fun prog w E Q h => by
  obtain ⟨cl, dd, dt, sl⟩ := o
  have hd' : dt = .dict es n := hd
  subst hd'
  exact SeqAt.rc_eq_decline_or (k := false) ⟨_, ho, hc⟩ (typeIs_str s b u) (by decide) F.sub_str_dict F.slot_dict_eq F.slot_str_eq_refl
    (fun _ hq => call_meets F.slot_dict_eq ⟨_, ho, hc⟩ F.entry_dict_eq (F.args_dict_eq_2 _ _) (dictEqStr l _ b u hc) ⟨ho, hq⟩)
    (fun _ hq => call_meets F.slot_str_eq_refl (typeIs_str s b u) F.entry_str_eq (F.args_str_eq_2 _ _) (strEqDict b u l cl es n dd sl) ⟨ho, hq⟩)
    (fun _ hq => wpAny_of_eq (rfl : isSame (.ref l) (.str b u) = pure false) hq) (.inr hu) h
end PySem
namespace DL
open PySem PySem.Spec PyProof.Rows L2
def isThe (z : Str) : PyData → Bool
  | .str y => y == z
  | _ => false
def rEqS (K : PySem.W.Frag) : R2 := fun x y H Q => rEqX K x y H Q ∨ ∃ d z, Dt K H x d ∧ y = .str z ∧ Q (.bl (isThe z d)) H
section
variable {X : Cx}
theorem op_eqS (hu : X.A.units + 64 < cLine) : OpR X (compareOp .Eq) (rEqS X.K) := by
  intro pins s σ H x y v u Q I rx ry h
  rcases h with h | ⟨d, z, hd, rfl, q⟩
  · exact op_eqX hu pins s σ H x y v u Q I rx ry h
  obtain ⟨t, rfl⟩ := (show ∃ t, u = Value.str z t from ry)
  have fin : ∀ {b : Bool}, SeqAt.RcAt X.A s v (.str z t) b → isThe z d = b → wpAny (model X.prog X.w) X.A (compareOp .Eq v (.str z t)) (EP X pins σ Q) X.xe s := fun {b} r e => by
    rw [e] at q
    exact r X.prog X.w X.xe (EP X pins σ Q) ⟨.bl b, H, I, rfl, q⟩
  cases hd with
  | non => cases rx; exact fin (SeqAt.RcAt.none_str z t) rfl
  | bl b => cases rx; exact fin (SeqAt.RcAt.bool_str b z t) rfl
  | int i =>
    obtain ⟨tt, rfl⟩ := rx
    exact fin (SeqAt.RcAt.int_str i tt z t) rfl
  | str y =>
    obtain ⟨tt, rfl⟩ := rx
    exact fin (SeqAt.RcAt.str_str y tt z t) rfl
  | lst h _ =>
    cases rx
    obtain ⟨its, r, ht, _⟩ := I.list (.inl (.inl h))
    exact fin (SeqAt.RcAt.list_str z t ht.isList (by omega)) rfl
  | tup h _ =>
    cases rx
    obtain ⟨its, r, ht, _⟩ := I.tuple h
    exact fin (SeqAt.RcAt.tuple_str z t ht (by omega)) rfl
  | dic h =>
    cases rx
    obtain ⟨_, far, vs, kv, ⟨o, es, ep, ho, hc, hd, _⟩⟩ := I.hok _ _ h
    exact fin (rcDictStr z t ho hc.1 hd (by omega)) rfl
end
section
variable {K : PySem.W.Frag} {F G H : Hp} {M : MH}
theorem rr_eqS {a b : AV} {x y : PyData} {R : KV} (ha : Rda M a x) (hb : Rda M b y) (hx : SeqAt.shaped x = true) (hy : SeqAt.shaped y = true) (k : R (.d (.bool (PyData.eqv x y))) M) : RR K (rEqS K) a b M R := fun F H u v Q ru rv s c =>
  .inl (rr_eqX ha hb hx hy k F H u v Q ru rv s c)
theorem rr_eqS0T {ds : List PyData} {R : KV} (k : R (.d (.bool ds.isEmpty)) M) : RR K (rEqS K) (.d (.tuple ds)) (.d (.tuple [])) M R := fun F H u v Q ru rv s c => .inl (rr_eq0T k F H u v Q ru rv s c)
theorem rr_eqS0L {a b : AV} {ds : List PyData} {R : KV} (ha : Rda M a (.list ds)) (hb : Rda M b (.list [])) (k : R (.d (.bool ds.isEmpty)) M) : RR K (rEqS K) a b M R := fun F H u v Q ru rv s c => .inl (rr_eq0L ha hb k F H u v Q ru rv s c)
theorem rr_eqSS {x : PyData} {z : Str} {R : KV} (k : R (.d (.bool (isThe z x))) M) : RR K (rEqS K) (.d x) (.d (.str z)) M R := fun F H u v Q ru rv s c => by
  obtain rfl := dp_str rv
  exact .inr ⟨x, z, dp_mono s.ex ru, rfl, c _ _ F M H Step.refl (rl_d (.bl _)) s k⟩
end
end DL

set_option Elab.async false
set_option linter.all false
set_option maxRecDepth 100000
set_option maxHeartbeats 4000000
/-! Calls by keywords alone; what is shown is short. -/
namespace DL
open PySem PySem.Spec PyProof.Rows L2
section
variable {X : Cx} {CX : CXT} {k : Nat} {f : Addr} {fd : FuncData} {ps ks : List Str} {sp : Sp} {E : XK} {x : Str} {p pos : Pos} {kws : List Keyword} {tk : TA} {g : List Value → List Value → List Value} {gV : List V → List V → List V}
theorem pe_callK0 (F : FnOk X.prog X.w X.K X.mg X.base CX k f fd ps sp) (hr : Room k X.A) (hg : Gl X x) (hm : X.mg x = some (.ref f)) (hk : PySem.W.keepIn X.K (.ref f) = true) (hb : KBinds X.K fd ps ks g gV) (hx : Passes CX X E) (hkw : PK X kws tk)
    (hall : (backToKw pos (keywordEach kws X.env)).all (·.1.isSome) = true := by rfl) (hks : (backToKw pos (keywordEach kws X.env)).filterMap (·.1) = ks := by rfl) (hdb : (x == ("__debug__" : Str)) = false := by decide)
    (hpl : ((backTo pos (starEach [] X.env)).any (·.1) || (backToKw pos (keywordEach kws X.env)).any (·.1.isNone)) = false := by rfl) : PE X (.Call (.Name x p) [] kws pos) (tCallK sp gV E tNil tk) :=
  ⟨fun pins s σ H Q I h => wpAny_Call_Name_kw (ld_glob I hg hm (PySem.W.callWith_KW0 (h₀ := X.base) I.ok.mod.kin hk hall
    (thn (hkw.run pos pins s σ H _ I h) fun ws s2 ⟨zs, H2, I2, rz, q2⟩ => ⟨I2.kIn, by rw [hks]; exact run_fnk F hr hb hx I2 .nil rz q2⟩) hpl) hdb)⟩
end
/-! ### how long what is shown is -/
mutual
/-- how much there is -/
def mass : PyData → Nat
  | .list xs => 1 + massAll xs
  | .tuple xs => 1 + massAll xs
  | .str z => 1 + z.length
  | .none => 1
  | .bool _ => 1
  | .int _ => 1
  | .dict _ => 1
def massAll : List PyData → Nat
  | [] => 0
  | x :: xs => mass x + massAll xs
end
mutual
/-- ints of at most 60 digits, texts of real signs, no dict but the empty one -/
def fine : PyData → Bool
  | .none => true
  | .bool _ => true
  | .int i => decide (i.natAbs ≤ 10 ^ 60)
  | .str z => z.cps.toList.all fun c => decide (c < 1114112)
  | .list xs => fineAll xs
  | .tuple xs => fineAll xs
  | .dict kvs => kvs.isEmpty
def fineAll : List PyData → Bool
  | [] => true
  | x :: xs => fine x && fineAll xs
end
structure Nice (m d : Nat) (x : PyData) : Prop where
  f : fine x = true
  m : mass x ≤ m
  d : x.depth ≤ d
theorem Nice.mono {m m' d d' : Nat} {x : PyData} (h : Nice m d x) (hm : m ≤ m') (hd : d ≤ d') : Nice m' d' x := ⟨h.f, Nat.le_trans h.m hm, Nat.le_trans h.d hd⟩
theorem massAll_app (xs ys : List PyData) : massAll (xs ++ ys) = massAll xs + massAll ys := by
  induction xs with
  | nil => simp [massAll]
  | cons x xs ih => simp [massAll, ih, Nat.add_assoc]
theorem massAll_rev (xs : List PyData) : massAll xs.reverse = massAll xs := by
  induction xs with
  | nil => rfl
  | cons x xs ih => simp [massAll, massAll_app, ih, Nat.add_comm]
theorem fineAll_app (xs ys : List PyData) : fineAll (xs ++ ys) = (fineAll xs && fineAll ys) := by
  induction xs with
  | nil => simp [fineAll]
  | cons x xs ih => simp [fineAll, ih, Bool.and_assoc]
theorem fineAll_mem {xs : List PyData} : fineAll xs = true ↔ ∀ x ∈ xs, fine x = true := by
  induction xs with
  | nil => simp [fineAll]
  | cons x xs ih => simp [fineAll, ih]
theorem massAll_mem {xs : List PyData} {x : PyData} (h : x ∈ xs) : mass x ≤ massAll xs := by
  induction xs with
  | nil => cases h
  | cons y xs ih =>
    simp only [massAll]
    rcases List.mem_cons.mp h with rfl | h
    · omega
    · have := ih h; omega
theorem mass_pos (x : PyData) : 1 ≤ mass x := by cases x <;> simp [mass]
theorem massAll_len (xs : List PyData) : xs.length ≤ massAll xs := by
  induction xs with
  | nil => simp
  | cons x xs ih =>
    have := mass_pos x
    simp only [massAll, List.length_cons]; omega
theorem depthAll_mem {xs : List PyData} {x : PyData} (h : x ∈ xs) : x.depth ≤ PyData.depthAll xs := by
  induction xs with
  | nil => cases h
  | cons y xs ih =>
    simp only [PyData.depthAll]
    rcases List.mem_cons.mp h with rfl | h
    · omega
    · have := ih h; omega
theorem depthAll_le {xs : List PyData} {n : Nat} (h : ∀ x ∈ xs, x.depth ≤ n) : PyData.depthAll xs ≤ n := by
  induction xs with
  | nil => simp [PyData.depthAll]
  | cons y xs ih =>
    simp only [PyData.depthAll]
    have := h y List.mem_cons_self
    have := ih fun x hx => h x (List.mem_cons_of_mem _ hx)
    omega
theorem log60 {i : Int} (h : i.natAbs ≤ 10 ^ 60) : i.natAbs.log2 < 1920 := by
  by_cases z : i.natAbs = 0
  · rw [z]; decide
  · have : i.natAbs.log2 < 200 := (Nat.log2_lt z).mpr (Nat.lt_of_le_of_lt h (by decide))
    omega
mutual
theorem fine_showable : ∀ {x : PyData}, fine x = true → x.showable = true
  | .none, _ => by simp [PyData.showable]
  | .bool _, _ => by simp [PyData.showable]
  | .int i, h => by
    simp only [fine, decide_eq_true_eq] at h
    simp only [PyData.showable, decide_eq_true_eq]
    exact log60 h
  | .str _, _ => by simp [PyData.showable]
  | .list xs, h => by simpa [PyData.showable] using fine_showableAll (by simpa [fine] using h)
  | .tuple xs, h => by simpa [PyData.showable] using fine_showableAll (by simpa [fine] using h)
  | .dict [], _ => by simp [PyData.showable, PyData.showableKv]
  | .dict (_ :: _), h => by simp [fine] at h
theorem fine_showableAll : ∀ {xs : List PyData}, fineAll xs = true → PyData.showableAll xs = true
  | [], _ => by simp [PyData.showableAll]
  | x :: xs, h => by
    simp only [fineAll, Bool.and_eq_true] at h
    simp only [PyData.showableAll, Bool.and_eq_true]
    exact ⟨fine_showable h.1, fine_showableAll h.2⟩
end
theorem shownAll_len : ∀ (xs : List PyData), (PyData.shownAll xs).length = xs.length
  | [] => by simp [PyData.shownAll]
  | x :: xs => by simp [PyData.shownAll, shownAll_len xs]
mutual
theorem shown_len : ∀ {x : PyData}, fine x = true → x.shown.length + 2 ≤ 1930 * mass x
  | .none, _ => by simp only [PyData.shown, mass]; decide
  | .bool b, _ => by
    simp only [PyData.shown, mass]
    cases b <;> decide
  | .int i, h => by
    simp only [fine, decide_eq_true_eq] at h
    simp only [PyData.shown, mass]
    have := PyProof.Rows.int_text_len_1921 (log60 h)
    omega
  | .str z, h => by
    simp only [fine, List.all_eq_true, decide_eq_true_eq] at h
    simp only [PyData.shown, mass]
    have := StrLaws.reprText_len z fun c hc => Nat.lt_trans (h c hc) (by decide)
    omega
  | .list xs, h => by
    simp only [PyData.shown, mass]
    have h1 := shown_lenAll (xs := xs) (by simpa [fine] using h)
    have h2 := listText_len_le (PyData.shownAll xs)
    rw [shownAll_len] at h2
    omega
  | .tuple xs, h => by
    simp only [PyData.shown, mass]
    have h1 := shown_lenAll (xs := xs) (by simpa [fine] using h)
    have h2 := tupleText_len_le (PyData.shownAll xs)
    rw [shownAll_len] at h2
    omega
  | .dict [], _ => by simp only [PyData.shown, PyData.shownKv, mass]; decide
  | .dict (_ :: _), h => by simp [fine] at h
theorem shown_lenAll : ∀ {xs : List PyData}, fineAll xs = true → ((PyData.shownAll xs).map (·.length)).sum + 2 * xs.length ≤ 1930 * massAll xs
  | [], _ => by simp [PyData.shownAll]
  | x :: xs, h => by
    simp only [fineAll, Bool.and_eq_true] at h
    have h1 := shown_len h.1
    have h2 := shown_lenAll h.2
    simp only [PyData.shownAll, List.map_cons, List.sum_cons, List.length_cons, massAll]
    omega
end
theorem Nice.shown {m d : Nat} {x : PyData} (h : Nice m d x) (hm : m ≤ 8000) : x.shown.length ≤ sizeLine := by
  have h1 := shown_len h.f
  have h2 := h.m
  have h3 : (sizeLine : Nat) = 16777216 := by decide
  omega
end DL
namespace DL
open PySem PySem.Spec PyProof.Rows L2
/-! ### parts of a list or a tuple; walking over two lists -/
def rSlQ (K : PySem.W.Frag) : V → Option Int → Option Int → Hp → VK → Prop := fun x lo hi H Q => rSlL K x lo hi H Q ∨ rSlA K x lo hi H Q
theorem sl_seq {X : Cx} : SlR X (rSlQ X.K) := by
  intro pins s σ H x v vl vu lo hi sl Q I rx hs pl pu h
  rcases h with h | h
  · exact sl_list pins s σ H x v vl vu lo hi sl Q I rx hs pl pu h
  · exact sl_tupA pins s σ H x v vl vu lo hi sl Q I rx hs pl pu h
section
variable {K : PySem.W.Frag} {F G H : Hp} {M : MH} {σ : L2.St} {env : Env'}
theorem rs_seqL {a : AV} {ds : List PyData} {lo hi : Option Int} {R : KV} (ha : Rda M a (.list ds)) (k : R (.d (.list (cutL ds lo hi))) M) : RS K (rSlQ K) a lo hi M R := fun F H x Q rx s c => .inl (rs_list ha k F H x Q rx s c)
theorem rs_seqT {ds : List PyData} {lo hi : Option Int} {R : KV} (k : R (.d (.tuple (cutL ds lo hi))) M) : RS K (rSlQ K) (.d (.tuple ds)) lo hi M R := fun F H x Q rx s c => .inr (rs_tup k F H x Q rx s c)
theorem ei_zipL {ta : TA} {R : List AV → (MH → Prop) → MH → Prop} (h : EA K ta env M fun as M1 => ∃ ds es, as = [.d (.list ds), .d (.list es)] ∧ R ((couples ds es).map AV.d) (fun _ => True) M1) : EI K (RZ.iZipA K ta) env M R := fun F σ H Q eo s c =>
  h F σ H _ eo s fun vs as G1 M1 H1 e1 ra s1 ⟨ds, es, ea, r1⟩ => by
    subst ea
    obtain ⟨x, y, rfl, rx, ry⟩ := rla2 ra
    obtain ⟨p, xs, rfl, hp, r⟩ := dp_lst rx
    obtain ⟨q, ys, rfl, hq, r2⟩ := dp_lst ry
    have hl := dpAll_len r
    have hl2 := dpAll_len r2
    have up : ∀ {b : Addr} {zs : List V} {G M H}, Same G1 G → Sep K G M H → G1 b = some (.lst zs) → SqL K H b zs := fun e s h => .inl (.inl (s.ex _ _ (e _ _ h)))
    refine ⟨p, q, xs, ys, rfl, .inl ⟨up (Same.refl _) s1 hp, up (Same.refl _) s1 hq, c _ G1 M1 H1 _ _ e1 ⟨fun H => SqL K H p xs ∧ SqL K H q ys, YPair (fun i => xs[i]?) (fun i => ys[i]?), ?_, fun G M H e s _ => ⟨up e s hp, up e s hq⟩, ?_⟩ s1 r1⟩⟩
    · have e : ((couples ds es).map AV.d).length = min xs.length ys.length := by simp [couples, hl, hl2]
      rw [e]
      exact walk_zip rfl
    · rintro i a G M H v H' e s _ ha ⟨T, x, y, rfl, hT, rfl, hx, hy⟩
      obtain ⟨d, h1, h2⟩ := dtAll_at r hx
      obtain ⟨d2, h3, h4⟩ := dtAll_at r2 hy
      have z : (ds.zip es)[i]? = some (d, d2) := by simp [List.getElem?_zip_eq_some, h1, h3]
      simp only [couples, List.getElem?_map, z, Option.map_some, Option.some.injEq] at ha
      subst ha
      exact pair_step s hT (dp_mono e h2) (dp_mono e h4)
/-- a comprehension that makes data of data, and drops some: f of each item, None: dropped -/
theorem lc_map {g : TG} {tt : TT} {te : TE} {vs : List Nat} {C : MH → Prop} {R : KV} {xs : List PyData} (f : PyData → Option PyData) (hC : C M)
    (turn : ∀ x, x ∈ xs → ∀ (T : List AV → MH → Prop) (acc : List AV), (∀ y, f x = some y → T (acc ++ [.d y]) M) → (f x = none → T acc M) →
      SG K g (.d x) (wipeE env vs) M fun e3 M3 => ET K tt e3 M3 fun b M4 => (b = true → EE K te e3 M4 fun y M5 => T (acc ++ [y]) M5) ∧ (b = false → T acc M4))
    (k : R (.d (.list (xs.filterMap f))) M) (hl : xs.length ≤ 100000) :
    (xs.map AV.d).length ≤ 100000 ∧ ∃ W : WdC, W 0 [] M ∧ (∀ i acc M2, W i acc M2 → C M2) ∧ (∀ (i : Nat) a, (xs.map AV.d)[i]? = some a → TurnC K g tt te (wipeE env vs) W i a) ∧
      (∀ acc M2, acc.length ≤ (xs.map AV.d).length → W (xs.map AV.d).length acc M2 → EndC R acc M2) := by
  refine ⟨by simpa using hl, fun i acc M2 => M2 = M ∧ acc = ((xs.take i).filterMap f).map AV.d, ⟨rfl, by simp⟩, fun i acc M2 h => by rw [h.1]; exact hC, ?_, ?_⟩
  · rintro i a ha acc M2 _ ⟨rfl, rfl⟩
    rw [List.getElem?_map] at ha
    cases hx : xs[i]? with
    | none => rw [hx] at ha; cases ha
    | some x =>
      rw [hx] at ha
      cases ha
      have tk : xs.take (i + 1) = xs.take i ++ [x] := by
        rw [List.take_add_one, hx]; rfl
      refine turn x (List.mem_of_getElem? hx) (fun acc M3 => M3 = M2 ∧ acc = ((xs.take (i + 1)).filterMap f).map AV.d) _ (fun y hy => ⟨rfl, ?_⟩) fun hn => ⟨rfl, ?_⟩
      · rw [tk, List.filterMap_append, List.map_append]
        simp [hy]
      · rw [tk, List.filterMap_append, List.map_append]
        simp [hn]
  · rintro acc M2 _ ⟨rfl, rfl⟩
    rw [List.length_map, List.take_length]
    exact .inl ⟨_, rfl, k⟩
theorem fin_b {R : KV} {b c : Bool} (k : R (.d (.bool b)) M) (e : b = c) : ∃ a' M', Out (.d (.bool c)) M a' M' ∧ R a' M' := ⟨_, _, .sub (SubM.refl _), e ▸ k⟩
theorem fin_d {R : KV} {a : AV} (k : R a M) : ∃ a' M', Out a M a' M' ∧ R a' M' := ⟨_, _, .sub (SubM.refl _), k⟩
end
end DL
namespace DL
theorem tt {A B : Prop} (a : A) : (true = true → A) ∧ (true = false → B) := ⟨fun _ => a, (fun z => nomatch z)⟩
theorem ff {A B : Prop} (b : B) : (false = true → A) ∧ (false = false → B) := ⟨(fun z => nomatch z), fun _ => b⟩
theorem ttN {A B : Prop} (a : A) : ((!false) = true → A) ∧ ((!false) = false → B) := ⟨fun _ => a, (fun z => nomatch z)⟩
theorem ffN {A B : Prop} (b : B) : ((!true) = true → A) ∧ ((!true) = false → B) := ⟨(fun z => nomatch z), fun _ => b⟩
end DL
namespace DL
open PySem PySem.Spec PyProof.Rows L2
section
variable {K : PySem.W.Frag} {F G H : Hp} {M : MH} {σ : L2.St} {env : Env'}
def isNon : PyData → Bool
  | .none => true
  | _ => false
theorem dt_non {v : V} {x : PyData} (h : Dt K F v x) : decide (v = .non) = isNon x := by
  cases h <;> simp [isNon]
theorem rr_isN {x : PyData} {R : KV} (k : R (.d (.bool (isNon x))) M) : RR K (fun x y H Q => y = .non ∧ Q (.bl (decide (x = .non))) H) (.d x) (.d .none) M R := fun F H u v Q ru rv s c => by
  refine ⟨dp_non rv, ?_⟩
  rw [dt_non ru]
  exact c _ _ F M H Step.refl (rl_d (.bl _)) s k
theorem rr_notN {x : PyData} {R : KV} (k : R (.d (.bool (!isNon x))) M) : RR K (fun x y H Q => y = .non ∧ Q (.bl (!decide (x = .non))) H) (.d x) (.d .none) M R := fun F H u v Q ru rv s c => by
  refine ⟨dp_non rv, ?_⟩
  rw [dt_non ru]
  exact c _ _ F M H Step.refl (rl_d (.bl _)) s k
/-- an item of a tuple at a written place -/
theorem rr_at {ds : List PyData} {i : Int} {d : PyData} {R : KV} (h0 : 0 ≤ i) (h : ds[i.toNat]? = some d) (k : R (.d d) M) : RR K (rIx K) (.d (.tuple ds)) (.d (.int i)) M R := rr_ixD (x := .tuple ds) (atI_nat' h0 h) k
theorem rr_atL {ds : List PyData} {i : Int} {d : PyData} {R : KV} (h0 : 0 ≤ i) (h : ds[i.toNat]? = some d) (k : R (.d d) M) : RR K (rIx K) (.d (.list ds)) (.d (.int i)) M R := rr_ixD (x := .list ds) (atI_nat' h0 h) k
end
end DL
namespace DL
open PySem PySem.Spec PyProof.Rows L2
section
variable {K : PySem.W.Frag} {M : MH}
theorem rr_eqStr {x y : Str} {R : KV} (k : R (.d (.bool (decide (x = y)))) M) : RR K rEq (.d (.str x)) (.d (.str y)) M R := fun F H u v Q ru rv s c => by
  obtain rfl := dp_str ru
  obtain rfl := dp_str rv
  refine ⟨rfl, ?_⟩
  have e : decide ((V.str x) = V.str y) = decide (x = y) := by simp
  rw [e]
  exact c _ _ F M H Step.refl (rl_d (.bl _)) s k
theorem rr_neStr {x y : Str} {R : KV} (k : R (.d (.bool (!decide (x = y)))) M) : RR K rNe (.d (.str x)) (.d (.str y)) M R := fun F H u v Q ru rv s c => by
  obtain rfl := dp_str ru
  obtain rfl := dp_str rv
  refine ⟨rfl, ?_⟩
  have e : decide ((V.str x) = V.str y) = decide (x = y) := by simp
  rw [e]
  exact c _ _ F M H Step.refl (rl_d (.bl _)) s k
end
end DL
namespace DL
open PySem
/-- the data of a row of values that are data -/
def undata : List AV → List PyData
  | [] => []
  | .d x :: r => x :: undata r
  | .m _ :: r => .none :: undata r
  | .x _ :: r => .none :: undata r
theorem tupD {as : List AV} {ds : List PyData} {P : List PyData → Prop} (h1 : as = ds.map AV.d) (h2 : ds.length ≤ 100000) (k : P ds) : ∃ ds, as = ds.map AV.d ∧ ds.length ≤ 100000 ∧ P ds := ⟨_, h1, h2, k⟩
theorem mapNil : ([] : List AV) = ([] : List PyData).map AV.d := rfl
theorem mapCons {as : List AV} {ds : List PyData} {x : PyData} (h : as = ds.map AV.d) : (AV.d x :: as) = (x :: ds).map AV.d := by rw [h]; rfl
end DL
namespace DL
open PySem PySem.Spec PyProof.Rows L2
/-! ### a if t else b, as a test -/
def tIfT (t u v : TT) : TT := fun σ H Q => t σ H fun c H1 => if c = true then u σ H1 Q else v σ H1 Q
theorem pt_ifE {X : Cx} {c a b : Expr} {tc ta tb : TT} {pos : Pos} (hc : PT X c tc) (ha : PT X a ta) (hb : PT X b tb) : PT X (.IfExp c a b pos) (tIfT tc ta tb) :=
  ⟨fun pins s σ H Q I h => PyProof.Rows.isTrue_IfExp (thn (hc.run pins s σ H _ I h) fun z s2 ⟨H2, I2, q⟩ => by
    cases z with
    | true => exact ha.run pins s2 σ H2 Q I2 q
    | false => exact hb.run pins s2 σ H2 Q I2 q)⟩
section
variable {K : PySem.W.Frag} {M : MH} {env : Env'}
theorem et_ifE {t u v : TT} {R : Bool → MH → Prop} (h : ET K t env M fun b M1 => (b = true → ET K u env M1 R) ∧ (b = false → ET K v env M1 R)) : ET K (tIfT t u v) env M R := fun F σ H Q eo s c =>
  h F σ H _ eo s fun b G M1 H1 e1 s1 ⟨h1, h2⟩ => by
    cases b with
    | true =>
      show u σ H1 Q
      exact h1 rfl G σ H1 Q (eo.mono e1.same) s1 (c.later e1)
    | false =>
      show v σ H1 Q
      exact h2 rfl G σ H1 Q (eo.mono e1.same) s1 (c.later e1)
end
end DL
namespace DL
open PySem PySem.Spec PyProof.Rows L2
section
variable {K : PySem.W.Frag} {M : MH} {env : Env'}
/-- if t: A; rest -/
theorem ss_when {t : TT} {A rest : TS} {P : Post} {p : Prop} [Decidable p] (ht : ∀ R : Bool → MH → Prop, R (decide p) M → ET K t env M R) (h1 : p → SS K A env M { P with nx := fun e M1 => SS K rest e M1 P }) (h2 : ¬ p → SS K rest env M P) :
    SS K (tSeq (tIfS t A tNext) rest) env M P :=
  ss_seq (ss_if (ht _ ⟨fun z => h1 (of_decide_eq_true z), fun z => ss_next (h2 (of_decide_eq_false z))⟩))
/-- if t and u: A; rest -/
theorem ss_when2 {t u : TT} {A rest : TS} {P : Post} {p q : Prop} [Decidable p] [Decidable q] (ht : ∀ R : Bool → MH → Prop, R (decide p) M → ET K t env M R) (hu : p → ∀ R : Bool → MH → Prop, R (decide q) M → ET K u env M R)
    (h1 : p ∧ q → SS K A env M { P with nx := fun e M1 => SS K rest e M1 P }) (h2 : ¬ (p ∧ q) → SS K rest env M P) : SS K (tSeq (tIfS (tAnd t u) A tNext) rest) env M P :=
  ss_seq (ss_if (et_and (ht _ ⟨fun z => hu (of_decide_eq_true z) _ ⟨fun y => h1 ⟨of_decide_eq_true z, of_decide_eq_true y⟩, fun y => ss_next (h2 fun c => absurd c.2 (of_decide_eq_false y))⟩,
    fun z => ⟨fun y => (nomatch y), fun _ => ss_next (h2 fun c => absurd c.1 (of_decide_eq_false z))⟩⟩)))
end
end DL
namespace DL
open PySem
theorem row0 {P : List PyData → Prop} (k : P []) : ∃ ds, ([] : List AV) = ds.map AV.d ∧ ds.length ≤ 100000 ∧ P ds := ⟨[], rfl, by simp, k⟩
theorem row1 {x0 : PyData} {P : List PyData → Prop} (k : P [x0]) : ∃ ds, [AV.d x0] = ds.map AV.d ∧ ds.length ≤ 100000 ∧ P ds := ⟨[x0], rfl, by simp, k⟩
theorem row2 {x0 x1 : PyData} {P : List PyData → Prop} (k : P [x0, x1]) : ∃ ds, [AV.d x0, AV.d x1] = ds.map AV.d ∧ ds.length ≤ 100000 ∧ P ds := ⟨[x0, x1], rfl, by simp, k⟩
theorem row3 {x0 x1 x2 : PyData} {P : List PyData → Prop} (k : P [x0, x1, x2]) : ∃ ds, [AV.d x0, AV.d x1, AV.d x2] = ds.map AV.d ∧ ds.length ≤ 100000 ∧ P ds := ⟨[x0, x1, x2], rfl, by simp, k⟩
theorem row4 {x0 x1 x2 x3 : PyData} {P : List PyData → Prop} (k : P [x0, x1, x2, x3]) : ∃ ds, [AV.d x0, AV.d x1, AV.d x2, AV.d x3] = ds.map AV.d ∧ ds.length ≤ 100000 ∧ P ds := ⟨[x0, x1, x2, x3], rfl, by simp, k⟩
theorem row5 {x0 x1 x2 x3 x4 : PyData} {P : List PyData → Prop} (k : P [x0, x1, x2, x3, x4]) : ∃ ds, [AV.d x0, AV.d x1, AV.d x2, AV.d x3, AV.d x4] = ds.map AV.d ∧ ds.length ≤ 100000 ∧ P ds := ⟨[x0, x1, x2, x3, x4], rfl, by simp, k⟩
theorem row6 {x0 x1 x2 x3 x4 x5 : PyData} {P : List PyData → Prop} (k : P [x0, x1, x2, x3, x4, x5]) : ∃ ds, [AV.d x0, AV.d x1, AV.d x2, AV.d x3, AV.d x4, AV.d x5] = ds.map AV.d ∧ ds.length ≤ 100000 ∧ P ds := ⟨[x0, x1, x2, x3, x4, x5], rfl, by simp, k⟩
theorem row7 {x0 x1 x2 x3 x4 x5 x6 : PyData} {P : List PyData → Prop} (k : P [x0, x1, x2, x3, x4, x5, x6]) : ∃ ds, [AV.d x0, AV.d x1, AV.d x2, AV.d x3, AV.d x4, AV.d x5, AV.d x6] = ds.map AV.d ∧ ds.length ≤ 100000 ∧ P ds := ⟨[x0, x1, x2, x3, x4, x5, x6], rfl, by simp, k⟩
theorem row8 {x0 x1 x2 x3 x4 x5 x6 x7 : PyData} {P : List PyData → Prop} (k : P [x0, x1, x2, x3, x4, x5, x6, x7]) : ∃ ds, [AV.d x0, AV.d x1, AV.d x2, AV.d x3, AV.d x4, AV.d x5, AV.d x6, AV.d x7] = ds.map AV.d ∧ ds.length ≤ 100000 ∧ P ds := ⟨[x0, x1, x2, x3, x4, x5, x6, x7], rfl, by simp, k⟩
theorem row9 {x0 x1 x2 x3 x4 x5 x6 x7 x8 : PyData} {P : List PyData → Prop} (k : P [x0, x1, x2, x3, x4, x5, x6, x7, x8]) : ∃ ds, [AV.d x0, AV.d x1, AV.d x2, AV.d x3, AV.d x4, AV.d x5, AV.d x6, AV.d x7, AV.d x8] = ds.map AV.d ∧ ds.length ≤ 100000 ∧ P ds := ⟨[x0, x1, x2, x3, x4, x5, x6, x7, x8], rfl, by simp, k⟩
theorem row10 {x0 x1 x2 x3 x4 x5 x6 x7 x8 x9 : PyData} {P : List PyData → Prop} (k : P [x0, x1, x2, x3, x4, x5, x6, x7, x8, x9]) : ∃ ds, [AV.d x0, AV.d x1, AV.d x2, AV.d x3, AV.d x4, AV.d x5, AV.d x6, AV.d x7, AV.d x8, AV.d x9] = ds.map AV.d ∧ ds.length ≤ 100000 ∧ P ds := ⟨[x0, x1, x2, x3, x4, x5, x6, x7, x8, x9], rfl, by simp, k⟩
theorem row11 {x0 x1 x2 x3 x4 x5 x6 x7 x8 x9 x10 : PyData} {P : List PyData → Prop} (k : P [x0, x1, x2, x3, x4, x5, x6, x7, x8, x9, x10]) : ∃ ds, [AV.d x0, AV.d x1, AV.d x2, AV.d x3, AV.d x4, AV.d x5, AV.d x6, AV.d x7, AV.d x8, AV.d x9, AV.d x10] = ds.map AV.d ∧ ds.length ≤ 100000 ∧ P ds := ⟨[x0, x1, x2, x3, x4, x5, x6, x7, x8, x9, x10], rfl, by simp, k⟩
theorem row12 {x0 x1 x2 x3 x4 x5 x6 x7 x8 x9 x10 x11 : PyData} {P : List PyData → Prop} (k : P [x0, x1, x2, x3, x4, x5, x6, x7, x8, x9, x10, x11]) : ∃ ds, [AV.d x0, AV.d x1, AV.d x2, AV.d x3, AV.d x4, AV.d x5, AV.d x6, AV.d x7, AV.d x8, AV.d x9, AV.d x10, AV.d x11] = ds.map AV.d ∧ ds.length ≤ 100000 ∧ P ds := ⟨[x0, x1, x2, x3, x4, x5, x6, x7, x8, x9, x10, x11], rfl, by simp, k⟩
theorem row13 {x0 x1 x2 x3 x4 x5 x6 x7 x8 x9 x10 x11 x12 : PyData} {P : List PyData → Prop} (k : P [x0, x1, x2, x3, x4, x5, x6, x7, x8, x9, x10, x11, x12]) : ∃ ds, [AV.d x0, AV.d x1, AV.d x2, AV.d x3, AV.d x4, AV.d x5, AV.d x6, AV.d x7, AV.d x8, AV.d x9, AV.d x10, AV.d x11, AV.d x12] = ds.map AV.d ∧ ds.length ≤ 100000 ∧ P ds := ⟨[x0, x1, x2, x3, x4, x5, x6, x7, x8, x9, x10, x11, x12], rfl, by simp, k⟩
theorem row14 {x0 x1 x2 x3 x4 x5 x6 x7 x8 x9 x10 x11 x12 x13 : PyData} {P : List PyData → Prop} (k : P [x0, x1, x2, x3, x4, x5, x6, x7, x8, x9, x10, x11, x12, x13]) : ∃ ds, [AV.d x0, AV.d x1, AV.d x2, AV.d x3, AV.d x4, AV.d x5, AV.d x6, AV.d x7, AV.d x8, AV.d x9, AV.d x10, AV.d x11, AV.d x12, AV.d x13] = ds.map AV.d ∧ ds.length ≤ 100000 ∧ P ds := ⟨[x0, x1, x2, x3, x4, x5, x6, x7, x8, x9, x10, x11, x12, x13], rfl, by simp, k⟩
theorem row15 {x0 x1 x2 x3 x4 x5 x6 x7 x8 x9 x10 x11 x12 x13 x14 : PyData} {P : List PyData → Prop} (k : P [x0, x1, x2, x3, x4, x5, x6, x7, x8, x9, x10, x11, x12, x13, x14]) : ∃ ds, [AV.d x0, AV.d x1, AV.d x2, AV.d x3, AV.d x4, AV.d x5, AV.d x6, AV.d x7, AV.d x8, AV.d x9, AV.d x10, AV.d x11, AV.d x12, AV.d x13, AV.d x14] = ds.map AV.d ∧ ds.length ≤ 100000 ∧ P ds := ⟨[x0, x1, x2, x3, x4, x5, x6, x7, x8, x9, x10, x11, x12, x13, x14], rfl, by simp, k⟩
theorem row16 {x0 x1 x2 x3 x4 x5 x6 x7 x8 x9 x10 x11 x12 x13 x14 x15 : PyData} {P : List PyData → Prop} (k : P [x0, x1, x2, x3, x4, x5, x6, x7, x8, x9, x10, x11, x12, x13, x14, x15]) : ∃ ds, [AV.d x0, AV.d x1, AV.d x2, AV.d x3, AV.d x4, AV.d x5, AV.d x6, AV.d x7, AV.d x8, AV.d x9, AV.d x10, AV.d x11, AV.d x12, AV.d x13, AV.d x14, AV.d x15] = ds.map AV.d ∧ ds.length ≤ 100000 ∧ P ds := ⟨[x0, x1, x2, x3, x4, x5, x6, x7, x8, x9, x10, x11, x12, x13, x14, x15], rfl, by simp, k⟩
theorem row17 {x0 x1 x2 x3 x4 x5 x6 x7 x8 x9 x10 x11 x12 x13 x14 x15 x16 : PyData} {P : List PyData → Prop} (k : P [x0, x1, x2, x3, x4, x5, x6, x7, x8, x9, x10, x11, x12, x13, x14, x15, x16]) : ∃ ds, [AV.d x0, AV.d x1, AV.d x2, AV.d x3, AV.d x4, AV.d x5, AV.d x6, AV.d x7, AV.d x8, AV.d x9, AV.d x10, AV.d x11, AV.d x12, AV.d x13, AV.d x14, AV.d x15, AV.d x16] = ds.map AV.d ∧ ds.length ≤ 100000 ∧ P ds := ⟨[x0, x1, x2, x3, x4, x5, x6, x7, x8, x9, x10, x11, x12, x13, x14, x15, x16], rfl, by simp, k⟩
theorem row18 {x0 x1 x2 x3 x4 x5 x6 x7 x8 x9 x10 x11 x12 x13 x14 x15 x16 x17 : PyData} {P : List PyData → Prop} (k : P [x0, x1, x2, x3, x4, x5, x6, x7, x8, x9, x10, x11, x12, x13, x14, x15, x16, x17]) : ∃ ds, [AV.d x0, AV.d x1, AV.d x2, AV.d x3, AV.d x4, AV.d x5, AV.d x6, AV.d x7, AV.d x8, AV.d x9, AV.d x10, AV.d x11, AV.d x12, AV.d x13, AV.d x14, AV.d x15, AV.d x16, AV.d x17] = ds.map AV.d ∧ ds.length ≤ 100000 ∧ P ds := ⟨[x0, x1, x2, x3, x4, x5, x6, x7, x8, x9, x10, x11, x12, x13, x14, x15, x16, x17], rfl, by simp, k⟩
theorem row19 {x0 x1 x2 x3 x4 x5 x6 x7 x8 x9 x10 x11 x12 x13 x14 x15 x16 x17 x18 : PyData} {P : List PyData → Prop} (k : P [x0, x1, x2, x3, x4, x5, x6, x7, x8, x9, x10, x11, x12, x13, x14, x15, x16, x17, x18]) : ∃ ds, [AV.d x0, AV.d x1, AV.d x2, AV.d x3, AV.d x4, AV.d x5, AV.d x6, AV.d x7, AV.d x8, AV.d x9, AV.d x10, AV.d x11, AV.d x12, AV.d x13, AV.d x14, AV.d x15, AV.d x16, AV.d x17, AV.d x18] = ds.map AV.d ∧ ds.length ≤ 100000 ∧ P ds := ⟨[x0, x1, x2, x3, x4, x5, x6, x7, x8, x9, x10, x11, x12, x13, x14, x15, x16, x17, x18], rfl, by simp, k⟩
theorem row20 {x0 x1 x2 x3 x4 x5 x6 x7 x8 x9 x10 x11 x12 x13 x14 x15 x16 x17 x18 x19 : PyData} {P : List PyData → Prop} (k : P [x0, x1, x2, x3, x4, x5, x6, x7, x8, x9, x10, x11, x12, x13, x14, x15, x16, x17, x18, x19]) : ∃ ds, [AV.d x0, AV.d x1, AV.d x2, AV.d x3, AV.d x4, AV.d x5, AV.d x6, AV.d x7, AV.d x8, AV.d x9, AV.d x10, AV.d x11, AV.d x12, AV.d x13, AV.d x14, AV.d x15, AV.d x16, AV.d x17, AV.d x18, AV.d x19] = ds.map AV.d ∧ ds.length ≤ 100000 ∧ P ds := ⟨[x0, x1, x2, x3, x4, x5, x6, x7, x8, x9, x10, x11, x12, x13, x14, x15, x16, x17, x18, x19], rfl, by simp, k⟩
end DL
namespace DL
open PySem PySem.Spec PyProof.Rows L2
section
variable {K : PySem.W.Frag} {M : MH}
theorem rc_listL {a : AV} {ds : List PyData} {R : KV} (ha : Rda M a (.list ds)) (k : R (.d (.list ds)) M) : RC K (fun xs H Q => ∃ p ys, xs = [.ref p] ∧ (SqL K H p ys ∨ SqT K H p ys) ∧ ∀ l, H l = none → Q (.ref l) (upd H l (.lst ys))) [a] M R := fun F H xs Q rs s c => by
  obtain ⟨v, rfl, rv⟩ := rla1 rs
  obtain ⟨p, ys, rfl, hp, r⟩ := ha.lst rv s
  exact ⟨p, ys, rfl, .inl (.inl (.inl hp)), fun l hl => c _ _ (upd F l (.lst ys)) M _ (Step.new s hl) (rl_d (.lst upd_same (dpAll_mono (same_new (s.fnone hl)) r))) (s.new hl) k⟩
end
end DL

set_option Elab.async false
set_option linter.all false
set_option maxRecDepth 100000
set_option maxHeartbeats 4000000
/-! a text so many times -/
namespace DL
open PySem PySem.Spec PyProof.Rows L2
def mulStr (a : Str) (n : Int) : Str := ⟨(List.replicate n.toNat a.cps).foldl (· ++ ·) #[]⟩
def rMulS : V → V → Hp → VK → Prop := fun x y H Q => ∃ a n, x = .str a ∧ y = .int n ∧ 1 < n ∧ n ≤ 1000 ∧ 0 < a.length ∧ a.length ≤ 1000 ∧ Q (.str (mulStr a n)) H
theorem mulStr_short {a : Str} {n : Int} (h2 : n ≤ 1000) (h4 : a.length ≤ 1000) : a.length * n.toNat ≤ 1000000 := by
  have : n.toNat ≤ 1000 := by omega
  exact Nat.mul_le_mul h4 this
theorem foldl_size (cs : Array Nat) : ∀ (k : Nat) (acc : Array Nat), ((List.replicate k cs).foldl (· ++ ·) acc).size = acc.size + k * cs.size
  | 0, acc => by simp
  | k + 1, acc => by
    rw [List.replicate_succ, List.foldl_cons, foldl_size cs k, Array.size_append, Nat.succ_mul]
    omega
theorem mulStr_len (a : Str) (n : Int) : (mulStr a n).length = n.toNat * a.length := by
  show (mulStr a n).cps.size = n.toNat * a.cps.size
  unfold mulStr
  rw [foldl_size]
  simp
theorem op_mulS {X : Cx} : OpR X (binaryOp .Mult) rMulS := by
  intro pins s σ H x y v u Q I rx ry h
  obtain ⟨a, n, rfl, rfl, h1, h2, h3, h4, q⟩ := h
  obtain ⟨t, rfl⟩ := rx
  obtain ⟨t', rfl⟩ := ry
  have hz := mulStr_short h2 h4
  have tl : ∀ k : Nat, k ≤ 1000000 → Builtin.Str.tooLong k = false := fun k hk => by
    have h3 : (sizeLine : Nat) = 16777216 := by decide
    simp only [Builtin.Str.tooLong, decide_eq_false_iff_not]
    omega
  have nb : (n == 1 || a.length == 0) = false := by
    rw [Bool.or_eq_false_iff]
    exact ⟨by simp; omega, by simp; omega⟩
  refine P.mul_str ?_ (fun _ _ => ?_) (fun _ _ => tl _ hz) ?_
  · rw [decide_eq_false (by omega), decide_eq_false (by omega)]; rfl
  · have : ((2 : Int) ^ 63 - 1) / n ≥ 1000 := by
      rw [ge_iff_le, Int.le_ediv_iff_mul_le (by omega)]
      omega
    have : (a.length : Int) ≤ 1000 := by omega
    omega
  · rw [if_neg (by omega), nb]
    refine ⟨?_, .str (mulStr a n), H, I.tok _, ⟨_, rfl⟩, q⟩
    have h3 : (sizeLine : Nat) = 16777216 := by decide
    show (mulStr a n).length ≤ sizeLine
    rw [mulStr_len, Nat.mul_comm, h3]
    omega
section
variable {K : PySem.W.Frag} {M : MH}
theorem rr_mulS {a : Str} {n : Int} {R : KV} (h : (1 < n ∧ n ≤ 1000) ∧ 0 < a.length ∧ a.length ≤ 1000) (k : R (.d (.str (mulStr a n))) M) : RR K rMulS (.d (.str a)) (.d (.int n)) M R := fun F H x y Q rx ry s c => by
  obtain rfl := dp_int ry
  obtain rfl := dp_str rx
  exact ⟨a, n, rfl, rfl, h.1.1, h.1.2, h.2.1, h.2.2, c _ _ F M H Step.refl (rl_d (.str _)) s k⟩
end
end DL

set_option Elab.async false
set_option linter.all false
set_option maxRecDepth 100000
set_option maxHeartbeats 4000000
namespace K49
open PySem PySem.Spec PyProof.Rows L2 DL
def top (i : Nat) : Stmt := PySem.Challenge.pw_splitscar_k49_images_of_any_value.main.body.getD i (.Pass ⟨0, 0, 0, 0⟩)
/-! ### what is asked of a value, told once -/
def isI : PyData → Bool
  | .int _ => true
  | _ => false
def isNum : PyData → Bool
  | .int i => decide (0 ≤ i)
  | _ => false
def isKey : PyData → Bool
  | .int i => decide (-999999999999999 ≤ i) && decide (i ≤ 999999999999999)
  | _ => false
def below (n : Int) : PyData → Bool
  | .int i => decide (0 ≤ i) && decide (i < n)
  | _ => false
def okSign (c : Nat) : Bool := decide (32 ≤ (c : Int)) && decide ((c : Int) ≤ 126) && !decide ((c : Int) = 37)
def okText (lo hi : Int) : PyData → Bool
  | .str z => decide (lo ≤ z.length) && decide ((z.length : Int) ≤ hi) && z.cps.toList.all okSign
  | _ => false
def signD : PyData → Bool
  | .str y => okSign (y.cps.getD 0 0)
  | _ => false
theorem mem_signs {z : Str} {x : PyData} (h : x ∈ DL.signs z) : ∃ c, c ∈ z.cps.toList ∧ x = .str ⟨#[c]⟩ := by
  simp only [DL.signs, List.mem_map] at h
  obtain ⟨c, h1, h2⟩ := h
  exact ⟨c, h1, h2.symm⟩
theorem signs_bools (z : Str) : (DL.signs z).filterMap (fun x => some (PyData.bool (signD x))) = (z.cps.toList.map okSign).map PyData.bool := by
  simp only [DL.signs, List.filterMap_eq_map', List.map_map]
  rfl
structure Bt (mg : Str → Option Value) : Prop where
  len : mg "len" = none
  abs : mg "abs" = none
  int : mg "int" = none
  bool : mg "bool" = none
  str : mg "str" = none
  tuple : mg "tuple" = none
  list : mg "list" = none
  isinstance : mg "isinstance" = none
  all : mg "all" = none
  ord : mg "ord" = none
  zip : mg "zip" = none
  repr : mg "repr" = none
  range : mg "range" = none
  sorted : mg "sorted" = none
  enumerate : mg "enumerate" = none
  m_KEY_MOST : ∃ u, mg "KEY_MOST" = some u ∧ L2.RelV (.int 999999999999999) u
  m_KEY_LEAST : ∃ u, mg "KEY_LEAST" = some u ∧ L2.RelV (.int (-999999999999999)) u
  m_SHORT_MOST : ∃ u, mg "SHORT_MOST" = some u ∧ L2.RelV (.int 8) u
  m_VALUE_MOST : ∃ u, mg "VALUE_MOST" = some u ∧ L2.RelV (.int 40) u
  m_PERCENT : ∃ u, mg "PERCENT" = some u ∧ L2.RelV (.int 37) u
variable {P : Program} {w : World} {K : PySem.W.Frag} {mg : Str → Option Value} {base : Heap}
local macro_rules | `(tactic| walk_at "v") => `(tactic| first
  | (with_reducible refine ssq_asg ?_) | (with_reducible refine ssq_drop ?_) | (with_reducible refine ssq_dput ?_) | (with_reducible refine ssq_par ?_) | (with_reducible refine ss_asg ?_) | (with_reducible refine sg_name ?_) | (with_reducible refine ss_ret ?_) | (with_reducible refine ss_next ?_) | (with_reducible refine ss_dput ?_) | (with_reducible refine ss_drop ?_)
  | (with_reducible refine et_test ?_) | (with_reducible refine et_B ?_) | (with_reducible refine et_not ?_) | (with_reducible refine et_and ?_) | (with_reducible refine et_or ?_) | (with_reducible refine et_ifE ?_)
  | (with_reducible refine ee_andV ?_) | (with_reducible refine ee_orV ?_) | (with_reducible refine ee_notV ?_) | (with_reducible refine ee_chain ?_)
  | (with_reducible refine ee_op ?_) | ((with_reducible refine ee_var (a := ?a1) ?h1 ?_); (case h1 => exact rfl)) | (with_reducible refine ee_int ?_) | (with_reducible refine ee_str ?_) | (with_reducible refine ee_bl ?_) | (with_reducible refine ee_non ?_) | (with_reducible refine ee_ty ?_)
  | (with_reducible refine ee_dget ?_) | (with_reducible refine ee_cb ?_) | (with_reducible refine ea_cons ?_) | (with_reducible refine ea_nil ?_)
  | ((with_reducible refine ee_call ?_)) | (with_reducible refine ee_revT ?_) | (with_reducible refine ee_sl ?_) | (with_reducible refine eo_none ?_) | (with_reducible refine eo_some ?_) | (with_reducible refine rs_tup ?_)
  | (with_reducible refine rr_add ?_) | (with_reducible refine rr_sub ?_) | (with_reducible refine rr_lt ?_) | (with_reducible refine rr_le ?_) | (with_reducible refine rr_gt ?_) | (with_reducible refine rr_ge ?_) | (with_reducible refine rr_eqI ?_) | (with_reducible refine rr_neI ?_) | (with_reducible refine rr_eqStr ?_) | (with_reducible refine rr_neStr ?_)
  | (with_reducible refine rr_eqSS ?_) | (with_reducible refine rr_eqS0T ?_)
  | ((with_reducible refine rr_mod ?h1 ?_); (case h1 => omega)) | ((with_reducible refine rr_pow ?h1 ?_); (case h1 => (refine ⟨by omega, by omega, by omega⟩)))
  | ((with_reducible refine rr_mul ?h1 ?_); (case h1 => (first | exact .inl ⟨by omega, by omega⟩ | exact .inr ⟨by omega, by omega⟩)))
  | ((with_reducible refine rr_fdivW ?h1 ?_); (case h1 => exact cdivW (by omega) (by omega)))
  | (with_reducible refine rc_abs ?_) | (with_reducible refine rc_int_bl ?_) | (with_reducible refine ru_neg ?_) | (with_reducible refine ee_un ?_) | (with_reducible refine ee_if ?_) | (with_reducible refine rc_ord ?_) | (with_reducible refine rc_len_tup ?_)
  | (with_reducible refine rc_isi (kit_tup _) (.d _) ?_) | (with_reducible refine rc_isi (kit_str _) (.d _) ?_) | (with_reducible refine rc_isi (kit_int _) (.d _) ?_) | (with_reducible refine rc_isi (kit_bool _) (.d _) ?_) | (with_reducible refine rc_isi (kit_list _) (.d _) ?_)
  | (with_reducible refine tt ?_) | (with_reducible refine ff ?_) | (with_reducible refine ttN ?_) | (with_reducible refine ffN ?_)
  | (with_reducible refine et_yes ?_) | (with_reducible refine rr_isN ?_) | (with_reducible refine rr_notN ?_) | ((with_reducible refine rr_at (d := ?d1) ?h0 ?h1 ?_); (case h0 => decide); (case h1 => exact rfl)) | ((with_reducible refine rr_atL (d := ?d1) ?h0 ?h1 ?_); (case h0 => decide); (case h1 => exact rfl))
  | (with_reducible refine ee_tup ?_) | (with_reducible refine ee_lst ?_)
  | (with_reducible refine ⟨_, rfl, ?_⟩)
  | (with_reducible refine row0 ?_) | (with_reducible refine row1 ?_) | (with_reducible refine row2 ?_) | (with_reducible refine row3 ?_) | (with_reducible refine row4 ?_) | (with_reducible refine row5 ?_) | (with_reducible refine row6 ?_) | (with_reducible refine row7 ?_) | (with_reducible refine row8 ?_) | (with_reducible refine row9 ?_) | (with_reducible refine row10 ?_) | (with_reducible refine row11 ?_) | (with_reducible refine row12 ?_) | (with_reducible refine row13 ?_) | (with_reducible refine row14 ?_) | (with_reducible refine row15 ?_) | (with_reducible refine row16 ?_) | (with_reducible refine row17 ?_) | (with_reducible refine row18 ?_) | (with_reducible refine row19 ?_) | (with_reducible refine row20 ?_))
-- slots: 0:value
abbrev sis_integer : Stmt := top 3
theorem scis_integer : FnScope ["value"] ["value"] (defScope sis_integer) := ⟨rfl, rfl, rfl, by decide +kernel, rfl, by decide +kernel, by decide +kernel⟩
def S_is_integer : SpD := fun as M R => ∃ x, as = [.d x] ∧ R (.d (.bool (isI x))) M
theorem ok_is_integer {f : Addr} {fd : FuncData} (Fn : Fun K "is_integer" "is_integer" sis_integer f fd) (T : Bt mg) : FnOk P w K mg base CX0 1 f fd ["value"] (toSp K 1 S_is_integer) := by
  refine def_ok Fn scis_integer (fun cdv A outer s H E hr => ?_)
  refine ⟨_, (pss_one (ps_ret (pe_and (pe_callB (show CallR _ _ (rIsi K) from call_isi) (by rfl) T.isinstance (by decide +kernel) (pa_cons (pv 0) (pa_cons (pe_bltn (v := .ty "int") (by rfl) T.int (by decide +kernel) rfl) pa_nil))) (pe_one (pe_not (pe_callB (show CallR _ _ (rIsi K) from call_isi) (by rfl) T.isinstance (by decide +kernel) (pa_cons (pv 0) (pa_cons (pe_bltn (v := .ty "bool") (by rfl) T.bool (by decide +kernel) rfl) pa_nil)))))))), ?_⟩
  rintro as M R hl ⟨x, rfl, k⟩
  try simp only [cxK]
  show SS K _ [some (.d x)] M _
  repeat walk_at "v"
  refine ⟨fun h => ?_, fun h => ?_⟩
  · repeat walk_at "v"
    exact fin_b k (by cases x <;> simp_all [isI, DL.isInt, isBl])
  · exact fin_b k (by cases x <;> simp_all [isI, DL.isInt])
theorem isI_int {x : PyData} (h : isI x = true) : ∃ i, x = .int i := by
  cases x <;> simp [isI] at h
  exact ⟨_, rfl⟩
-- slots: 0:value
abbrev sis_key : Stmt := top 4
theorem scis_key : FnScope ["value"] ["value"] (defScope sis_key) := ⟨rfl, rfl, rfl, by decide +kernel, rfl, by decide +kernel, by decide +kernel⟩
def S_is_key : SpD := fun as M R => ∃ x, as = [.d x] ∧ R (.d (.bool (isKey x))) M
theorem ok_is_key {f : Addr} {fd : FuncData} (Fn : Fun K "is_key" "is_key" sis_key f fd) (T : Bt mg) (h_is_integer : Has P w K mg base "is_integer" 1 ["value"] S_is_integer) : FnOk P w K mg base CX0 2 f fd ["value"] (toSp K 1 S_is_key) := by
  refine def_ok Fn scis_key (fun cdv A outer s H E hr => ?_)
  refine ⟨_, (pss_one (ps_ret (pe_and (pe_call h_is_integer.ok (hr.mono (by first | decide | (show _ ≤ 3 + _; omega))) (by rfl) h_is_integer.mg h_is_integer.kp h_is_integer.b .nil pass0 (pa_cons (pv 0) pa_nil)) (pe_one (pe_chain op_le op_le (pe_glob rfl T.m_KEY_LEAST.choose_spec.1 T.m_KEY_LEAST.choose_spec.2) (pv 0) (pe_glob rfl T.m_KEY_MOST.choose_spec.1 T.m_KEY_MOST.choose_spec.2)))))), ?_⟩
  rintro as M R hl ⟨x, rfl, k⟩
  try simp only [cxK]
  show SS K _ [some (.d x)] M _
  repeat walk_at "v"
  refine ⟨rfl, x, rfl, _, rfl, fun h => ?_, fun h => ?_⟩
  · obtain ⟨i, rfl⟩ := isI_int h
    repeat walk_at "v"
    refine ⟨fun h1 => ?_, fun h1 => ?_⟩
    · repeat walk_at "v"
      exact fin_b k (by simp only [isKey, h1, Bool.true_and])
    · exact fin_b k (by simp only [isKey, h1, Bool.false_and])
  · exact fin_b k (by cases x <;> simp_all [isI, isKey])
-- slots: 0:value 1:many
abbrev sis_index : Stmt := top 5
theorem scis_index : FnScope ["value", "many"] ["value", "many"] (defScope sis_index) := ⟨rfl, rfl, rfl, by decide +kernel, rfl, by decide +kernel, by decide +kernel⟩
def S_is_index : SpD := fun as M R => ∃ x n, as = [.d x, .d (.int n)] ∧ R (.d (.bool (below n x))) M
theorem ok_is_index {f : Addr} {fd : FuncData} (Fn : Fun K "is_index" "is_index" sis_index f fd) (T : Bt mg) (h_is_integer : Has P w K mg base "is_integer" 1 ["value"] S_is_integer) : FnOk P w K mg base CX0 2 f fd ["value", "many"] (toSp K 2 S_is_index) := by
  refine def_ok Fn scis_index (fun cdv A outer s H E hr => ?_)
  refine ⟨_, (pss_one (ps_ret (pe_and (pe_call h_is_integer.ok (hr.mono (by first | decide | (show _ ≤ 3 + _; omega))) (by rfl) h_is_integer.mg h_is_integer.kp h_is_integer.b .nil pass0 (pa_cons (pv 0) pa_nil)) (pe_one (pe_chain op_le op_lt pe_int (pv 0) (pv 1)))))), ?_⟩
  rintro as M R hl ⟨x, n, rfl, k⟩
  try simp only [cxK]
  show SS K _ [some (.d x), some (.d (.int n))] M _
  repeat walk_at "v"
  refine ⟨rfl, x, rfl, _, rfl, fun h => ?_, fun h => ?_⟩
  · obtain ⟨i, rfl⟩ := isI_int h
    repeat walk_at "v"
    refine ⟨fun h1 => ?_, fun h1 => ?_⟩
    · repeat walk_at "v"
      exact fin_b k (by simp only [below, h1, Bool.true_and])
    · exact fin_b k (by simp only [below, h1, Bool.false_and])
  · exact fin_b k (by cases x <;> simp_all [isI, below])
-- slots: 0:value
abbrev sis_number : Stmt := top 13
theorem scis_number : FnScope ["value"] ["value"] (defScope sis_number) := ⟨rfl, rfl, rfl, by decide +kernel, rfl, by decide +kernel, by decide +kernel⟩
def S_is_number : SpD := fun as M R => ∃ x, as = [.d x] ∧ R (.d (.bool (isNum x))) M
theorem ok_is_number {f : Addr} {fd : FuncData} (Fn : Fun K "is_number" "is_number" sis_number f fd) (T : Bt mg) (h_is_integer : Has P w K mg base "is_integer" 1 ["value"] S_is_integer) : FnOk P w K mg base CX0 2 f fd ["value"] (toSp K 1 S_is_number) := by
  refine def_ok Fn scis_number (fun cdv A outer s H E hr => ?_)
  refine ⟨_, (pss_one (ps_ret (pe_and (pe_call h_is_integer.ok (hr.mono (by first | decide | (show _ ≤ 3 + _; omega))) (by rfl) h_is_integer.mg h_is_integer.kp h_is_integer.b .nil pass0 (pa_cons (pv 0) pa_nil)) (pe_one (pe_cmpR op_ge (pv 0) pe_int (nomark _)))))), ?_⟩
  rintro as M R hl ⟨x, rfl, k⟩
  try simp only [cxK]
  show SS K _ [some (.d x)] M _
  repeat walk_at "v"
  refine ⟨rfl, x, rfl, _, rfl, fun h => ?_, fun h => ?_⟩
  · obtain ⟨i, rfl⟩ := isI_int h
    repeat walk_at "v"
    exact fin_b k rfl
  · exact fin_b k (by cases x <;> simp_all [isI, isNum])
-- slots: 0:value 1:least 2:most 3:char
abbrev sis_text : Stmt := top 11
theorem scis_text : FnScope ["value", "least", "most", "char"] ["value", "least", "most"] (defScope sis_text) := ⟨rfl, rfl, rfl, by decide +kernel, rfl, by decide +kernel, by decide +kernel⟩
def Lean (x : PyData) : Prop := ∀ z, x = .str z → z.length ≤ 100000
def S_is_text : SpD := fun as M R => ∃ x lo hi, as = [.d x, .d (.int lo), .d (.int hi)] ∧ Lean x ∧ R (.d (.bool (okText lo hi x))) M
theorem ok_is_text {f : Addr} {fd : FuncData} (Fn : Fun K "is_text" "is_text" sis_text f fd) (T : Bt mg) : FnOk P w K mg base CX0 1 f fd ["value", "least", "most"] (toSp K 3 S_is_text) := by
  refine def_ok Fn scis_text (fun cdv A outer s H E hr => ?_)
  refine ⟨_, (pss_cons (ps_if (PW.pt (pw_or (pt_not (pt_val (pe_callB (show CallR _ _ (rIsi K) from call_isi) (by rfl) T.isinstance (by decide +kernel) (pa_cons (pv 0) (pa_cons (pe_bltn (v := .ty "str") (by rfl) T.str (by decide +kernel) rfl) pa_nil))))) (pw_or1 (pt_not (pt_chain op_le op_le (pv 1) (pe_callB (show CallR _ _ (fun xs H Q => ∃ x n, xs = [x] ∧ LenV K x H n ∧ Q (.int n) H) from call_len) (by rfl) T.len (by decide +kernel) (pa_cons (pv 0) pa_nil)) (pv 2)))))) (pss_one (ps_ret pe_bl)) pss_nil)
      (pss_one (ps_ret (pe_callB (show CallR _ _ (rAll K) from cr_all rfl) (by rfl) T.all (by decide +kernel) (pa_cons (pe_lc (own := [("char", 3)]) (g := (gName 3)) (tt := tYes) (by rfl) scis_text.nd (pi_str (pv 0)) (blkOk_by (own := [("char", 3)]) (N := ["value", "least", "most", "char"]) (sc := defScope sis_text) (by decide +kernel)) (fun _ _ _ _ _ => (pg_name (i := 3) scis_text.nd rfl (by first | exact Or.inl rfl | exact Or.inr rfl))) (fun _ _ _ _ _ => pts_nil) (fun _ _ _ _ _ => (pe_and (pe_chain op_le op_le pe_int (pe_callB call_ord (by rfl) T.ord (by decide +kernel) (pa_cons (pv 3) pa_nil)) pe_int) (pe_one (pe_cmpR op_ne (pe_callB call_ord (by rfl) T.ord (by decide +kernel) (pa_cons (pv 3) pa_nil)) (pe_glob rfl T.m_PERCENT.choose_spec.1 T.m_PERCENT.choose_spec.2) (nomark _)))))) pa_nil))))), ?_⟩
  rintro as M R hl ⟨x, lo, hi, rfl, hx, k⟩
  try simp only [cxK]
  show SS K _ [some (.d x), some (.d (.int lo)), some (.d (.int hi)), none] M _
  refine ss_seq (ss_if ?_)
  repeat walk_at "v"
  refine ⟨fun h => ?_, fun h => ?_⟩
  · repeat walk_at "v"
    exact fin_b k (by cases x <;> simp_all [isStr, okText])
  obtain ⟨z, rfl⟩ : ∃ z, x = .str z := by
    cases x <;> simp [isStr] at h
    exact ⟨_, rfl⟩
  repeat walk_at "v"
  refine rc_len_str (hx z rfl) ?_
  repeat walk_at "v"
  refine ⟨fun h1 => ?_, fun h1 => ?_⟩
  · repeat walk_at "v"
    refine ⟨fun h2 => ?_, fun h2 => ?_⟩
    · repeat walk_at "v"
      refine fin_b k ?_
      simp only [okText, h1]
      simp at h2
      simp [show ¬ ((z.length : Int) ≤ hi) by omega]
    · repeat walk_at "v"
      refine ee_lc (only_name (by simp)) (ei_str ?_)
      repeat walk_at "v"
      refine lc_map (fun x => some (.bool (signD x))) trivial ?_ ?_ ?_
      · intro x hx' T acc ty tn
        obtain ⟨c, hc, rfl⟩ := mem_signs hx'
        repeat walk_at "v"
        refine ⟨fun g1 => ?_, fun g1 => ?_⟩
        · repeat walk_at "v"
          refine ⟨fun g2 => ?_, fun g2 => ?_⟩
          · repeat walk_at "v"
            exact ty _ (by simp [signD, okSign, g1, g2])
          · exact ty _ (by simp [signD, okSign, g1, g2])
        · repeat walk_at "v"
          exact ty _ (by simp [signD, okSign, g1])
      · repeat walk_at "v"
        rw [signs_bools]
        refine rc_all (.d _) ?_
        refine fin_b k ?_
        simp only [okText, h1]
        simp at h2
        simp [h2, List.all_map]
      · have : z.cps.size ≤ 100000 := hx z rfl
        simpa [DL.signs] using this
  · repeat walk_at "v"
    exact fin_b k (by simp [okText, h1])
end K49

set_option Elab.async false
set_option linter.all false
set_option maxRecDepth 100000
set_option maxHeartbeats 4000000
namespace K49
open PySem PySem.Spec PyProof.Rows L2 DL
variable {P : Program} {w : World} {K : PySem.W.Frag} {mg : Str → Option Value} {base : Heap}
local macro_rules | `(tactic| walk_at "v") => `(tactic| first
  | (with_reducible refine ssq_asg ?_) | (with_reducible refine ssq_drop ?_) | (with_reducible refine ssq_dput ?_) | (with_reducible refine ssq_par ?_) | (with_reducible refine ss_asg ?_) | (with_reducible refine sg_name ?_) | (with_reducible refine ss_ret ?_) | (with_reducible refine ss_next ?_) | (with_reducible refine ss_dput ?_) | (with_reducible refine ss_drop ?_)
  | (with_reducible refine et_test ?_) | (with_reducible refine et_B ?_) | (with_reducible refine et_not ?_) | (with_reducible refine et_and ?_) | (with_reducible refine et_or ?_) | (with_reducible refine et_ifE ?_)
  | (with_reducible refine ee_andV ?_) | (with_reducible refine ee_orV ?_) | (with_reducible refine ee_notV ?_) | (with_reducible refine ee_chain ?_)
  | (with_reducible refine ee_op ?_) | ((with_reducible refine ee_var (a := ?a1) ?h1 ?_); (case h1 => exact rfl)) | (with_reducible refine ee_int ?_) | (with_reducible refine ee_str ?_) | (with_reducible refine ee_bl ?_) | (with_reducible refine ee_non ?_) | (with_reducible refine ee_ty ?_)
  | (with_reducible refine ee_dget ?_) | (with_reducible refine ee_cb ?_) | (with_reducible refine ea_cons ?_) | (with_reducible refine ea_nil ?_)
  | ((with_reducible refine ee_call ?_)) | (with_reducible refine ee_revT ?_) | (with_reducible refine ee_sl ?_) | (with_reducible refine eo_none ?_) | (with_reducible refine eo_some ?_) | (with_reducible refine rs_tup ?_)
  | (with_reducible refine rr_add ?_) | (with_reducible refine rr_sub ?_) | (with_reducible refine rr_lt ?_) | (with_reducible refine rr_le ?_) | (with_reducible refine rr_gt ?_) | (with_reducible refine rr_ge ?_) | (with_reducible refine rr_eqI ?_) | (with_reducible refine rr_neI ?_) | (with_reducible refine rr_eqStr ?_) | (with_reducible refine rr_neStr ?_)
  | (with_reducible refine rr_eqSS ?_) | (with_reducible refine rr_eqS0T ?_)
  | ((with_reducible refine rr_mod ?h1 ?_); (case h1 => omega)) | ((with_reducible refine rr_pow ?h1 ?_); (case h1 => (refine ⟨by omega, by omega, by omega⟩)))
  | ((with_reducible refine rr_mul ?h1 ?_); (case h1 => (first | exact .inl ⟨by omega, by omega⟩ | exact .inr ⟨by omega, by omega⟩)))
  | ((with_reducible refine rr_fdivW ?h1 ?_); (case h1 => exact cdivW (by omega) (by omega)))
  | (with_reducible refine rc_abs ?_) | (with_reducible refine rc_int_bl ?_) | (with_reducible refine ru_neg ?_) | (with_reducible refine ee_un ?_) | (with_reducible refine ee_if ?_) | (with_reducible refine rc_ord ?_) | (with_reducible refine rc_len_tup ?_)
  | (with_reducible refine rc_isi (kit_tup _) (.d _) ?_) | (with_reducible refine rc_isi (kit_str _) (.d _) ?_) | (with_reducible refine rc_isi (kit_int _) (.d _) ?_) | (with_reducible refine rc_isi (kit_bool _) (.d _) ?_) | (with_reducible refine rc_isi (kit_list _) (.d _) ?_)
  | (with_reducible refine tt ?_) | (with_reducible refine ff ?_) | (with_reducible refine ttN ?_) | (with_reducible refine ffN ?_)
  | (with_reducible refine et_yes ?_) | (with_reducible refine rr_isN ?_) | (with_reducible refine rr_notN ?_) | ((with_reducible refine rr_at (d := ?d1) ?h0 ?h1 ?_); (case h0 => decide); (case h1 => exact rfl)) | ((with_reducible refine rr_atL (d := ?d1) ?h0 ?h1 ?_); (case h0 => decide); (case h1 => exact rfl))
  | (with_reducible refine ee_tup ?_) | (with_reducible refine ee_lst ?_)
  | (with_reducible refine ⟨_, rfl, ?_⟩)
  | (with_reducible refine row0 ?_) | (with_reducible refine row1 ?_) | (with_reducible refine row2 ?_) | (with_reducible refine row3 ?_) | (with_reducible refine row4 ?_) | (with_reducible refine row5 ?_) | (with_reducible refine row6 ?_) | (with_reducible refine row7 ?_) | (with_reducible refine row8 ?_) | (with_reducible refine row9 ?_) | (with_reducible refine row10 ?_) | (with_reducible refine row11 ?_) | (with_reducible refine row12 ?_) | (with_reducible refine row13 ?_) | (with_reducible refine row14 ?_) | (with_reducible refine row15 ?_) | (with_reducible refine row16 ?_) | (with_reducible refine row17 ?_) | (with_reducible refine row18 ?_) | (with_reducible refine row19 ?_) | (with_reducible refine row20 ?_))
/-! ### rows of ints -/
def ascI (ns : List Int) : Bool := (ns.zip (ns.drop 1)).all fun p => decide (p.1 < p.2)
theorem cut1 {α : Type} (xs : List α) : cutL xs (some 1) none = xs.drop 1 := by
  unfold cutL
  have h1 : HT.sIx xs.length 0 (some 1) = min 1 xs.length := by
    unfold HT.sIx; simp
  have h2 : HT.sIx xs.length xs.length none = xs.length := by
    unfold HT.sIx; simp
  rw [h1, h2]
  by_cases h : 1 ≤ xs.length
  · rw [show min 1 xs.length = 1 by omega]
    exact List.take_of_length_le (by simp)
  · have : xs = [] := List.length_eq_zero_iff.mp (by omega)
    subst this
    simp
def lessD : PyData → Bool
  | .tuple [.int i, .int j] => decide (i < j)
  | _ => false
theorem couples_ints (ns ms : List Int) : couples (ns.map PyData.int) (ms.map PyData.int) = (ns.zip ms).map fun p => .tuple [.int p.1, .int p.2] := by
  unfold couples
  rw [List.zip_map, List.map_map]
  rfl
theorem couples_bools (ns : List Int) : (couples (ns.map PyData.int) ((ns.map PyData.int).drop 1)).filterMap (fun x => some (PyData.bool (lessD x))) = ((ns.zip (ns.drop 1)).map fun p => decide (p.1 < p.2)).map PyData.bool := by
  rw [← List.map_drop, couples_ints, List.filterMap_eq_map', List.map_map, List.map_map]
  rfl
-- slots: 0:row 1:high 2:low
abbrev sis_ascending : Stmt := top 6
theorem scis_ascending : FnScope ["row", "high", "low"] ["row"] (defScope sis_ascending) := ⟨rfl, rfl, rfl, by decide +kernel, rfl, by decide +kernel, by decide +kernel⟩
def S_is_ascending : SpD := fun as M R => ∃ a ns, as = [a] ∧ (a = .d (.tuple (ns.map PyData.int)) ∨ a = .d (.list (ns.map PyData.int))) ∧ ns.length ≤ 10000 ∧ R (.d (.bool (ascI ns))) M
theorem ok_is_ascending {f : Addr} {fd : FuncData} (Fn : Fun K "is_ascending" "is_ascending" sis_ascending f fd) (T : Bt mg) : FnOk P w K mg base CX0 1 f fd ["row"] (toSp K 1 S_is_ascending) := by
  refine def_ok Fn scis_ascending (fun cdv A outer s H E hr => ?_)
  refine ⟨_, (pss_one (ps_ret (pe_callB (show CallR _ _ (rAll K) from cr_all rfl) (by rfl) T.all (by decide +kernel) (pa_cons (pe_lc (own := [("low", 2), ("high", 1)]) (g := (gTup K 2 (gCons (gName 2) (gCons (gName 1) gNil)))) (tt := tYes) (by rfl) scis_ascending.nd (RZ.pi_zipA (by rfl) T.zip (pa_cons (pv 0) (pa_cons (pe_slice (show SlR _ (rSlQ K) from sl_seq) (pv 0) (po_some pe_int) po_none) pa_nil))) (blkOk_by (own := [("low", 2), ("high", 1)]) (N := ["row", "high", "low"]) (sc := defScope sis_ascending) (by decide +kernel)) (fun _ _ _ _ _ => (pg_tup rfl (pgs_cons (pg_name (i := 2) scis_ascending.nd rfl (by first | exact Or.inl rfl | exact Or.inr rfl)) (pgs_cons (pg_name (i := 1) scis_ascending.nd rfl (by first | exact Or.inl rfl | exact Or.inr rfl)) pgs_nil)))) (fun _ _ _ _ _ => pts_nil) (fun _ _ _ _ _ => (pe_cmpR op_lt (pv 2) (pv 1) (nomark _)))) pa_nil)))), ?_⟩
  rintro as M R hl ⟨a, ns, rfl, ha, hn, k⟩
  try simp only [cxK]
  show SS K _ [some a, none, none] M _
  repeat walk_at "v"
  have len : (couples (ns.map PyData.int) ((ns.map PyData.int).drop 1)).length ≤ 100000 := by
    simp [couples]
    omega
  have fin : True → RC K (rAll K) [.d (.list ((couples (ns.map PyData.int) ((ns.map PyData.int).drop 1)).filterMap (fun x => some (PyData.bool (lessD x)))))] M fun a M1 => ∃ a' M', Out a M1 a' M' ∧ R a' M' := fun _ => by
    rw [couples_bools]
    refine rc_all (.d _) (fin_b k ?_)
    simp [ascI, List.all_map]
  have turn : ∀ (env : Env') (x : PyData), x ∈ couples (ns.map PyData.int) ((ns.map PyData.int).drop 1) → env.length = 3 → ∀ (T : List AV → MH → Prop) (acc : List AV), (∀ y, some (PyData.bool (lessD x)) = some y → T (acc ++ [.d y]) M) →
      SG K (gTup K 2 (gCons (gName 2) (gCons (gName 1) gNil))) (.d x) env M fun e3 M3 => ET K tYes e3 M3 fun b M4 => (b = true → EE K (tOp (rI0 fun i j => V.bl (decide (i < j))) (tVar 2) (tVar 1)) e3 M4 fun y M5 => T (acc ++ [y]) M5) ∧ (b = false → T acc M4) := by
    intro env x hx he T acc ty
    obtain ⟨i, j, rfl⟩ : ∃ i j, x = .tuple [.int i, .int j] := by
      rw [← List.map_drop, couples_ints] at hx
      obtain ⟨p, _, rfl⟩ := List.mem_map.mp hx
      exact ⟨_, _, rfl⟩
    obtain ⟨e0, e1, e2, rfl⟩ : ∃ a b c, env = [a, b, c] := by
      match env, he with
      | [a, b, c], _ => exact ⟨a, b, c, rfl⟩
    refine sg_tup rfl (sgs_cons (sg_name (sgs_cons (sg_name (sgs_nil ?_)))))
    repeat walk_at "v"
    exact ty _ rfl
  have wl : (wipeE [some a, none, none] (List.map (fun x => x.snd) [((Str.ofString "low"), 2), ((Str.ofString "high"), 1)])).length = 3 := by simp [wipeE]
  rcases ha with rfl | rfl
  · refine ee_lc (only_tup (onlys_name (by simp) (onlys_name (by simp) onlys_nil))) (ei_zipT ?_)
    repeat walk_at "v"
    refine rs_seqT ?_
    rw [cut1]
    repeat walk_at "v"
    refine ⟨_, _, rfl, lc_map (fun x => some (.bool (lessD x))) trivial (fun x hx T acc ty _ => turn _ x hx wl T acc ty) ?_ len⟩
    repeat walk_at "v"
    exact fin trivial
  · refine ee_lc (only_tup (onlys_name (by simp) (onlys_name (by simp) onlys_nil))) (ei_zipL ?_)
    repeat walk_at "v"
    refine rs_seqL (.d _) ?_
    rw [cut1]
    repeat walk_at "v"
    refine ⟨_, _, rfl, lc_map (fun x => some (.bool (lessD x))) trivial (fun x hx T acc ty _ => turn _ x hx wl T acc ty) ?_ len⟩
    repeat walk_at "v"
    exact fin trivial
/-! ### the parts of images -/
def areNums : PyData → Bool
  | .tuple xs => xs.all isNum
  | _ => false
def linkD (x : PyData) : Bool := isNon x || isNum x
def heldD : PyData → Bool
  | .str z => okText 0 8 (.str z)
  | .tuple [a, p, l] => isThe "at" a && isNum p && below 41 l && (match l with | .int i => decide (8 < i) | _ => false)
  | _ => false
def recD : PyData → Bool
  | .tuple [a, h] => isKey a && heldD h
  | _ => false
def intsOf (xs : List PyData) : List Int := xs.filterMap fun x => match x with | .int i => some i | _ => none
def keysOf (xs : List PyData) : List PyData := xs.filterMap fun x => match x with | .tuple [a, _] => some a | _ => none
def recsD : PyData → Bool
  | .tuple xs => xs.all recD && ascI (intsOf (keysOf xs))
  | _ => false
def sepsD : PyData → Bool
  | .tuple xs => xs.all isKey && !xs.isEmpty && ascI (intsOf xs)
  | _ => false
theorem isNum_int {x : PyData} (h : isNum x = true) : ∃ i, x = .int i := by
  cases x <;> simp [isNum] at h
  exact ⟨_, rfl⟩
theorem isKey_int {x : PyData} (h : isKey x = true) : ∃ i, x = .int i := by
  cases x <;> simp [isKey] at h
  exact ⟨_, rfl⟩
theorem ints_of {xs : List PyData} (h : ∀ x ∈ xs, ∃ i, x = .int i) : xs = (intsOf xs).map PyData.int := by
  induction xs with
  | nil => rfl
  | cons x xs ih =>
    obtain ⟨i, rfl⟩ := h x List.mem_cons_self
    have := ih fun y hy => h y (List.mem_cons_of_mem _ hy)
    simp only [intsOf, List.filterMap_cons, List.map_cons]
    rw [← show intsOf xs = xs.filterMap _ from rfl, ← this]
theorem lc_all {f : PyData → Bool} {xs : List PyData} : xs.filterMap (fun x => some (PyData.bool (f x))) = (xs.map f).map PyData.bool := by
  rw [List.filterMap_eq_map', List.map_map]
  rfl
theorem tup_of {x : PyData} (h : isTup x = true) : ∃ xs, x = .tuple xs := by
  cases x <;> simp [isTup] at h
  exact ⟨_, rfl⟩
-- slots: 0:value 1:item
abbrev sare_numbers : Stmt := top 20
theorem scare_numbers : FnScope ["value", "item"] ["value"] (defScope sare_numbers) := ⟨rfl, rfl, rfl, by decide +kernel, rfl, by decide +kernel, by decide +kernel⟩
def S_are_numbers : SpD := fun as M R => ∃ x, as = [.d x] ∧ (∀ xs, x = .tuple xs → xs.length ≤ 10000) ∧ R (.d (.bool (areNums x))) M
theorem ok_are_numbers {f : Addr} {fd : FuncData} (Fn : Fun K "are_numbers" "are_numbers" sare_numbers f fd) (T : Bt mg) (h_is_number : Has P w K mg base "is_number" 2 ["value"] S_is_number) : FnOk P w K mg base CX0 3 f fd ["value"] (toSp K 1 S_are_numbers) := by
  refine def_ok Fn scare_numbers (fun cdv A outer s H E hr => ?_)
  refine ⟨_, (pss_one (ps_ret (pe_and (pe_callB (show CallR _ _ (rIsi K) from call_isi) (by rfl) T.isinstance (by decide +kernel) (pa_cons (pv 0) (pa_cons (pe_bltn (v := .ty "tuple") (by rfl) T.tuple (by decide +kernel) rfl) pa_nil))) (pe_one (pe_callB (show CallR _ _ (rAll K) from cr_all rfl) (by rfl) T.all (by decide +kernel) (pa_cons (pe_lc (own := [("item", 1)]) (g := (gName 1)) (tt := tYes) (by rfl) scare_numbers.nd (pi_tup (pv 0)) (blkOk_by (own := [("item", 1)]) (N := ["value", "item"]) (sc := defScope sare_numbers) (by decide +kernel)) (fun _ _ _ _ _ => (pg_name (i := 1) scare_numbers.nd rfl (by first | exact Or.inl rfl | exact Or.inr rfl))) (fun _ _ _ _ _ => pts_nil) (fun _ _ _ _ _ => (pe_call h_is_number.ok (hr.mono (by first | decide | (show _ ≤ 3 + _; omega))) (by rfl) h_is_number.mg h_is_number.kp h_is_number.b .nil pass0 (pa_cons (pv 1) pa_nil)))) pa_nil)))))), ?_⟩
  rintro as M R hl ⟨x, rfl, hx, k⟩
  try simp only [cxK]
  show SS K _ [some (.d x), none] M _
  repeat walk_at "v"
  refine ⟨fun h => ?_, fun h => ?_⟩
  · obtain ⟨xs, rfl⟩ := tup_of h
    repeat walk_at "v"
    refine ee_lc (only_name (by simp)) (ei_tup ?_)
    repeat walk_at "v"
    refine lc_map (fun x => some (.bool (isNum x))) trivial (fun x hx' T' acc ty _ => ?_) ?_ (Nat.le_trans (hx xs rfl) (by decide))
    · repeat walk_at "v"
      exact ⟨rfl, x, rfl, ty _ rfl⟩
    · repeat walk_at "v"
      rw [lc_all]
      exact rc_all (.d _) (fin_b k (by simp [areNums, List.all_map]))
  · exact fin_b k (by cases x <;> simp_all [isTup, areNums])
-- slots: 0:value
abbrev sis_link : Stmt := top 21
theorem scis_link : FnScope ["value"] ["value"] (defScope sis_link) := ⟨rfl, rfl, rfl, by decide +kernel, rfl, by decide +kernel, by decide +kernel⟩
def S_is_link : SpD := fun as M R => ∃ x, as = [.d x] ∧ R (.d (.bool (linkD x))) M
theorem ok_is_link {f : Addr} {fd : FuncData} (Fn : Fun K "is_link" "is_link" sis_link f fd) (T : Bt mg) (h_is_number : Has P w K mg base "is_number" 2 ["value"] S_is_number) : FnOk P w K mg base CX0 3 f fd ["value"] (toSp K 1 S_is_link) := by
  refine def_ok Fn scis_link (fun cdv A outer s H E hr => ?_)
  refine ⟨_, (pss_one (ps_ret (pe_or (pe_cmpR op_isN (pv 0) pe_non (nomark _)) (pe_one (pe_call h_is_number.ok (hr.mono (by first | decide | (show _ ≤ 3 + _; omega))) (by rfl) h_is_number.mg h_is_number.kp h_is_number.b .nil pass0 (pa_cons (pv 0) pa_nil)))))), ?_⟩
  rintro as M R hl ⟨x, rfl, k⟩
  try simp only [cxK]
  show SS K _ [some (.d x)] M _
  repeat walk_at "v"
  refine ⟨fun h => ?_, fun h => ?_⟩
  · exact fin_b k (by simp [linkD, h])
  · repeat walk_at "v"
    exact ⟨rfl, x, rfl, fin_b k (by simp [linkD, h])⟩
-- slots: 0:value 1:word 2:page 3:length
abbrev sis_held : Stmt := top 12
theorem scis_held : FnScope ["value", "word", "page", "length"] ["value"] (defScope sis_held) := ⟨rfl, rfl, rfl, by decide +kernel, rfl, by decide +kernel, by decide +kernel⟩
def S_is_held : SpD := fun as M R => ∃ x, as = [.d x] ∧ Lean x ∧ (∀ xs, x = .tuple xs → xs.length ≤ 10000) ∧ R (.d (.bool (heldD x))) M
theorem ok_is_held {f : Addr} {fd : FuncData} (Fn : Fun K "is_held" "is_held" sis_held f fd) (T : Bt mg) (h_is_text : Has P w K mg base "is_text" 1 ["value", "least", "most"] S_is_text) (h_is_number : Has P w K mg base "is_number" 2 ["value"] S_is_number)
    (h_is_index : Has P w K mg base "is_index" 2 ["value", "many"] S_is_index) : FnOk P w K mg base CX0 3 f fd ["value"] (toSp K 1 S_is_held) := by
  refine def_ok Fn scis_held (fun cdv A outer s H E hr => ?_)
  refine ⟨_, (pss_cons (ps_if (pt_val (pe_callB (show CallR _ _ (rIsi K) from call_isi) (by rfl) T.isinstance (by decide +kernel) (pa_cons (pv 0) (pa_cons (pe_bltn (v := .ty "str") (by rfl) T.str (by decide +kernel) rfl) pa_nil)))) (pss_one (ps_ret (pe_call h_is_text.ok (hr.mono (by first | decide | (show _ ≤ 3 + _; omega))) (by rfl) h_is_text.mg h_is_text.kp h_is_text.b .nil pass0 (pa_cons (pv 0) (pa_cons pe_int (pa_cons (pe_glob rfl T.m_SHORT_MOST.choose_spec.1 T.m_SHORT_MOST.choose_spec.2) pa_nil)))))) pss_nil)
      (pss_cons (ps_if (PW.pt (pw_or (pt_not (pt_val (pe_callB (show CallR _ _ (rIsi K) from call_isi) (by rfl) T.isinstance (by decide +kernel) (pa_cons (pv 0) (pa_cons (pe_bltn (v := .ty "tuple") (by rfl) T.tuple (by decide +kernel) rfl) pa_nil))))) (pw_or1 (pt_cmpR op_ne (pe_callB (show CallR _ _ (fun xs H Q => ∃ x n, xs = [x] ∧ LenV K x H n ∧ Q (.int n) H) from call_len) (by rfl) T.len (by decide +kernel) (pa_cons (pv 0) pa_nil)) pe_int (nomark _))))) (pss_one (ps_ret pe_bl)) pss_nil)
      (pss_cons (ps_asg (pv 0) (pg_tup rfl (pgs_cons (pg_name (i := 1) scis_held.nd rfl (by first | exact Or.inl rfl | exact Or.inr rfl)) (pgs_cons (pg_name (i := 2) scis_held.nd rfl (by first | exact Or.inl rfl | exact Or.inr rfl)) (pgs_cons (pg_name (i := 3) scis_held.nd rfl (by first | exact Or.inl rfl | exact Or.inr rfl)) pgs_nil)))))
      (pss_one (ps_ret (pe_and (pe_cmpR (show OpR _ _ (rEqS K) from op_eqS hr.units) (pv 1) pe_str (nomark _)) (pe_and (pe_call h_is_number.ok (hr.mono (by first | decide | (show _ ≤ 3 + _; omega))) (by rfl) h_is_number.mg h_is_number.kp h_is_number.b .nil pass0 (pa_cons (pv 2) pa_nil)) (pe_and (pe_call h_is_index.ok (hr.mono (by first | decide | (show _ ≤ 3 + _; omega))) (by rfl) h_is_index.mg h_is_index.kp h_is_index.b .nil pass0 (pa_cons (pv 3) (pa_cons (pe_op op_add (pe_glob rfl T.m_VALUE_MOST.choose_spec.1 T.m_VALUE_MOST.choose_spec.2) pe_int) pa_nil))) (pe_one (pe_cmpR op_gt (pv 3) (pe_glob rfl T.m_SHORT_MOST.choose_spec.1 T.m_SHORT_MOST.choose_spec.2) (nomark _))))))))))), ?_⟩
  rintro as M R hl ⟨x, rfl, hx, hx2, k⟩
  try simp only [cxK]
  show SS K _ [some (.d x), none, none, none] M _
  refine ss_seq (ss_if ?_)
  repeat walk_at "v"
  refine ⟨fun h => ?_, fun h => ?_⟩
  · repeat walk_at "v"
    exact ⟨rfl, x, 0, 8, rfl, hx, fin_b k (by cases x <;> simp_all [isStr, heldD])⟩
  repeat walk_at "v"
  refine ss_seq (ss_if ?_)
  repeat walk_at "v"
  refine ⟨fun h1 => ?_, fun h1 => ?_⟩
  · repeat walk_at "v"
    exact fin_b k (by cases x <;> simp_all [isTup, heldD, isStr])
  obtain ⟨xs, rfl⟩ := tup_of (by simpa using h1)
  repeat walk_at "v"
  refine ⟨fun h2 => ?_, fun h2 => ?_⟩
  · repeat walk_at "v"
    refine fin_b k ?_
    match xs, h2 with
    | [], _ => rfl
    | [_], _ => rfl
    | [_, _], _ => rfl
    | _ :: _ :: _ :: _ :: _, _ => rfl
    | [_, _, _], h2 => simp at h2
  obtain ⟨a, p, l, rfl⟩ : ∃ a p l, xs = [a, p, l] := by
    match xs, h2 with
    | [a, p, l], _ => exact ⟨a, p, l, rfl⟩
    | [], h2 => simp at h2
    | [_], h2 => simp at h2
    | [_, _], h2 => simp at h2
    | _ :: _ :: _ :: _ :: r, h2 =>
      simp at h2
      omega
  repeat walk_at "v"
  refine sg_tup rfl (sgs_cons (sg_name (sgs_cons (sg_name (sgs_cons (sg_name (sgs_nil ?_)))))))
  repeat walk_at "v"
  refine ⟨fun g1 => ?_, fun g1 => ?_⟩
  · repeat walk_at "v"
    refine ⟨rfl, p, rfl, _, rfl, fun g2 => ?_, fun g2 => ?_⟩
    · repeat walk_at "v"
      refine ⟨rfl, l, 41, rfl, _, rfl, fun g3 => ?_, fun g3 => ?_⟩
      · obtain ⟨i, rfl⟩ : ∃ i, l = .int i := by
          cases l <;> simp [below] at g3
          exact ⟨_, rfl⟩
        repeat walk_at "v"
        exact fin_b k (by simp [heldD, g1, g2, g3])
      · exact fin_b k (by simp [heldD, g3])
    · exact fin_b k (by simp [heldD, g2])
  · exact fin_b k (by simp [heldD, g1])
-- slots: 0:value
abbrev sis_held_record : Stmt := top 18
theorem scis_held_record : FnScope ["value"] ["value"] (defScope sis_held_record) := ⟨rfl, rfl, rfl, by decide +kernel, rfl, by decide +kernel, by decide +kernel⟩
def Small (x : PyData) : Prop := Lean x ∧ ∀ xs, x = .tuple xs → xs.length ≤ 10000
def S_is_held_record : SpD := fun as M R => ∃ x, as = [.d x] ∧ (∀ a h, x = .tuple [a, h] → Small h) ∧ R (.d (.bool (recD x))) M
theorem two_of {xs : List PyData} (h : decide ((xs.length : Int) = 2) = true) : ∃ a b, xs = [a, b] := by
  match xs, h with
  | [a, b], _ => exact ⟨a, b, rfl⟩
  | [], h => simp at h
  | [_], h => simp at h
  | _ :: _ :: _ :: r, h =>
    simp at h
    omega
theorem ok_is_held_record {f : Addr} {fd : FuncData} (Fn : Fun K "is_held_record" "is_held_record" sis_held_record f fd) (T : Bt mg) (h_is_key : Has P w K mg base "is_key" 2 ["value"] S_is_key) (h_is_held : Has P w K mg base "is_held" 3 ["value"] S_is_held) :
    FnOk P w K mg base CX0 4 f fd ["value"] (toSp K 1 S_is_held_record) := by
  refine def_ok Fn scis_held_record (fun cdv A outer s H E hr => ?_)
  refine ⟨_, (pss_one (ps_ret (pe_and (pe_callB (show CallR _ _ (rIsi K) from call_isi) (by rfl) T.isinstance (by decide +kernel) (pa_cons (pv 0) (pa_cons (pe_bltn (v := .ty "tuple") (by rfl) T.tuple (by decide +kernel) rfl) pa_nil))) (pe_and (pe_cmpR op_eq (pe_callB (show CallR _ _ (fun xs H Q => ∃ x n, xs = [x] ∧ LenV K x H n ∧ Q (.int n) H) from call_len) (by rfl) T.len (by decide +kernel) (pa_cons (pv 0) pa_nil)) pe_int (nomark _)) (pe_and (pe_call h_is_key.ok (hr.mono (by first | decide | (show _ ≤ 3 + _; omega))) (by rfl) h_is_key.mg h_is_key.kp h_is_key.b .nil pass0 (pa_cons (pe_ix (show IxR _ (rIx K) from ix_seq) (pv 0) pe_int (fun _ _ => rfl)) pa_nil)) (pe_one (pe_call h_is_held.ok (hr.mono (by first | decide | (show _ ≤ 3 + _; omega))) (by rfl) h_is_held.mg h_is_held.kp h_is_held.b .nil pass0 (pa_cons (pe_ix (show IxR _ (rIx K) from ix_seq) (pv 0) pe_int (fun _ _ => rfl)) pa_nil)))))))), ?_⟩
  rintro as M R hl ⟨x, rfl, hx, k⟩
  try simp only [cxK]
  show SS K _ [some (.d x)] M _
  repeat walk_at "v"
  refine ⟨fun h => ?_, fun h => ?_⟩
  · obtain ⟨xs, rfl⟩ := tup_of h
    repeat walk_at "v"
    refine ⟨fun h1 => ?_, fun h1 => ?_⟩
    · obtain ⟨a, b, rfl⟩ := two_of h1
      repeat walk_at "v"
      refine ⟨rfl, a, rfl, _, rfl, fun h2 => ?_, fun h2 => ?_⟩
      · repeat walk_at "v"
        exact ⟨rfl, b, rfl, (hx a b rfl).1, (hx a b rfl).2, fin_b k (by simp [recD, h2])⟩
      · exact fin_b k (by simp [recD, h2])
    · refine fin_b k ?_
      match xs, h1 with
      | [], _ => rfl
      | [_], _ => rfl
      | _ :: _ :: _ :: _, _ => rfl
      | [_, _], h1 => simp at h1
  · exact fin_b k (by cases x <;> simp_all [isTup, recD])
-- slots: 0:value 1:held 2:key 3:record
abbrev sare_held_records : Stmt := top 17
theorem scare_held_records : FnScope ["value", "held", "key", "record"] ["value"] (defScope sare_held_records) := ⟨rfl, rfl, rfl, by decide +kernel, rfl, by decide +kernel, by decide +kernel⟩
def SmallAll (x : PyData) : Prop := ∀ xs, x = .tuple xs → xs.length ≤ 10000 ∧ ∀ a h, .tuple [a, h] ∈ xs → Small h
def S_are_held_records : SpD := fun as M R => ∃ x, as = [.d x] ∧ SmallAll x ∧ R (.d (.bool (recsD x))) M
theorem recs_keys {xs : List PyData} (h : xs.all recD = true) : ∀ x ∈ keysOf xs, ∃ i, x = .int i := by
  intro x hx
  simp only [keysOf, List.mem_filterMap] at hx
  obtain ⟨y, hy, e⟩ := hx
  have hr := List.all_eq_true.mp h y hy
  match y, e, hr with
  | .tuple [a, b], e, hr =>
    simp at e
    subst e
    simp [recD] at hr
    exact isKey_int hr.1
  | .tuple [], e, _ => simp at e
  | .tuple [_], e, _ => simp at e
  | .tuple (_ :: _ :: _ :: _), e, _ => simp at e
  | .none, e, _ => simp at e
  | .bool _, e, _ => simp at e
  | .int _, e, _ => simp at e
  | .str _, e, _ => simp at e
  | .list _, e, _ => simp at e
  | .dict _, e, _ => simp at e
theorem ok_are_held_records {f : Addr} {fd : FuncData} (Fn : Fun K "are_held_records" "are_held_records" sare_held_records f fd) (T : Bt mg) (h_is_held_record : Has P w K mg base "is_held_record" 4 ["value"] S_is_held_record)
    (h_is_ascending : Has P w K mg base "is_ascending" 1 ["row"] S_is_ascending) : FnOk P w K mg base CX0 5 f fd ["value"] (toSp K 1 S_are_held_records) := by
  refine def_ok Fn scare_held_records (fun cdv A outer s H E hr => ?_)
  refine ⟨_, (pss_cons (ps_if (PW.pt (pw_or (pt_not (pt_val (pe_callB (show CallR _ _ (rIsi K) from call_isi) (by rfl) T.isinstance (by decide +kernel) (pa_cons (pv 0) (pa_cons (pe_bltn (v := .ty "tuple") (by rfl) T.tuple (by decide +kernel) rfl) pa_nil))))) (pw_or1 (pt_not (pt_val (pe_callB (show CallR _ _ (rAll K) from cr_all rfl) (by rfl) T.all (by decide +kernel) (pa_cons (pe_lc (own := [("record", 3)]) (g := (gName 3)) (tt := tYes) (by rfl) scare_held_records.nd (pi_tup (pv 0)) (blkOk_by (own := [("record", 3)]) (N := ["value", "held", "key", "record"]) (sc := defScope sare_held_records) (by decide +kernel)) (fun _ _ _ _ _ => (pg_name (i := 3) scare_held_records.nd rfl (by first | exact Or.inl rfl | exact Or.inr rfl))) (fun _ _ _ _ _ => pts_nil) (fun _ _ _ _ _ => (pe_call h_is_held_record.ok (hr.mono (by first | decide | (show _ ≤ 3 + _; omega))) (by rfl) h_is_held_record.mg h_is_held_record.kp h_is_held_record.b .nil pass0 (pa_cons (pv 3) pa_nil)))) pa_nil))))))) (pss_one (ps_ret pe_bl)) pss_nil)
      (pss_one (ps_ret (pe_call h_is_ascending.ok (hr.mono (by first | decide | (show _ ≤ 3 + _; omega))) (by rfl) h_is_ascending.mg h_is_ascending.kp h_is_ascending.b .nil pass0 (pa_cons (pe_lc (own := [("key", 2), ("held", 1)]) (g := (gTup K 2 (gCons (gName 2) (gCons (gName 1) gNil)))) (tt := tYes) (by rfl) scare_held_records.nd (pi_tup (pv 0)) (blkOk_by (own := [("key", 2), ("held", 1)]) (N := ["value", "held", "key", "record"]) (sc := defScope sare_held_records) (by decide +kernel)) (fun _ _ _ _ _ => (pg_tup rfl (pgs_cons (pg_name (i := 2) scare_held_records.nd rfl (by first | exact Or.inl rfl | exact Or.inr rfl)) (pgs_cons (pg_name (i := 1) scare_held_records.nd rfl (by first | exact Or.inl rfl | exact Or.inr rfl)) pgs_nil)))) (fun _ _ _ _ _ => pts_nil) (fun _ _ _ _ _ => (pv 2))) pa_nil))))), ?_⟩
  rintro as M R hl ⟨x, rfl, hx, k⟩
  try simp only [cxK]
  show SS K _ [some (.d x), none, none, none] M _
  refine ss_seq (ss_if ?_)
  repeat walk_at "v"
  refine ⟨fun h => ?_, fun h => ?_⟩
  · repeat walk_at "v"
    exact fin_b k (by cases x <;> simp_all [isTup, recsD])
  obtain ⟨xs, rfl⟩ := tup_of (by simpa using h)
  obtain ⟨hl1, hs⟩ := hx xs rfl
  repeat walk_at "v"
  refine ee_lc (only_name (by simp)) (ei_tup ?_)
  repeat walk_at "v"
  refine lc_map (fun x => some (.bool (recD x))) trivial (fun x hx' T' acc ty _ => ?_) ?_ (Nat.le_trans hl1 (by decide))
  · repeat walk_at "v"
    exact ⟨rfl, x, rfl, fun a b e => hs a b (e ▸ hx'), ty _ rfl⟩
  repeat walk_at "v"
  rw [lc_all]
  refine rc_all (.d _) ?_
  repeat walk_at "v"
  have ea : (xs.map recD).all id = xs.all recD := by simp [List.all_map]
  rw [ea]
  refine ⟨fun h2 => ?_, fun h2 => ?_⟩
  · repeat walk_at "v"
    have h3 : xs.all recD = false := Bool.eq_false_iff.mpr fun z => by rw [z] at h2; cases h2
    exact fin_b k (by rw [recsD, h3]; rfl)
  have h3 : xs.all recD = true := by
    cases e : xs.all recD with
    | true => rfl
    | false => rw [e] at h2; cases h2
  repeat walk_at "v"
  refine ee_lc (only_tup (onlys_name (by simp) (onlys_name (by simp) onlys_nil))) (ei_tup ?_)
  repeat walk_at "v"
  refine lc_map (fun x => match x with | .tuple [a, _] => some a | _ => none) trivial (fun x hx' T' acc ty _ => ?_) ?_ (Nat.le_trans hl1 (by decide))
  · obtain ⟨a, b, rfl⟩ : ∃ a b, x = .tuple [a, b] := by
      have := List.all_eq_true.mp h3 x hx'
      match x, this with
      | .tuple [a, b], _ => exact ⟨a, b, rfl⟩
    refine sg_tup rfl (sgs_cons (sg_name (sgs_cons (sg_name (sgs_nil ?_)))))
    repeat walk_at "v"
    exact ty _ rfl
  repeat walk_at "v"
  have hi := ints_of (recs_keys h3)
  have hle : (intsOf (keysOf xs)).length ≤ 10000 := by
    have h1 : (keysOf xs).length ≤ xs.length := List.length_filterMap_le _ _
    have h2 : (intsOf (keysOf xs)).length ≤ (keysOf xs).length := List.length_filterMap_le _ _
    omega
  refine ⟨rfl, .d (.list (keysOf xs)), intsOf (keysOf xs), rfl, .inr (by rw [← hi]), hle, fin_b k (by simp [recsD, h3])⟩
-- slots: 0:value 1:separator
abbrev sare_separators : Stmt := top 19
theorem scare_separators : FnScope ["value", "separator"] ["value"] (defScope sare_separators) := ⟨rfl, rfl, rfl, by decide +kernel, rfl, by decide +kernel, by decide +kernel⟩
def S_are_separators : SpD := fun as M R => ∃ x, as = [.d x] ∧ (∀ xs, x = .tuple xs → xs.length ≤ 10000) ∧ R (.d (.bool (sepsD x))) M
theorem ok_are_separators {f : Addr} {fd : FuncData} (Fn : Fun K "are_separators" "are_separators" sare_separators f fd) (T : Bt mg) (h_is_key : Has P w K mg base "is_key" 2 ["value"] S_is_key)
    (h_is_ascending : Has P w K mg base "is_ascending" 1 ["row"] S_is_ascending) : FnOk P w K mg base CX0 3 f fd ["value"] (toSp K 1 S_are_separators) := by
  refine def_ok Fn scare_separators (fun cdv A outer s H E hr => ?_)
  refine ⟨_, (pss_cons (ps_if (PW.pt (pw_or (pt_not (pt_val (pe_callB (show CallR _ _ (rIsi K) from call_isi) (by rfl) T.isinstance (by decide +kernel) (pa_cons (pv 0) (pa_cons (pe_bltn (v := .ty "tuple") (by rfl) T.tuple (by decide +kernel) rfl) pa_nil))))) (pw_or1 (pt_not (pt_val (pe_callB (show CallR _ _ (rAll K) from cr_all rfl) (by rfl) T.all (by decide +kernel) (pa_cons (pe_lc (own := [("separator", 1)]) (g := (gName 1)) (tt := tYes) (by rfl) scare_separators.nd (pi_tup (pv 0)) (blkOk_by (own := [("separator", 1)]) (N := ["value", "separator"]) (sc := defScope sare_separators) (by decide +kernel)) (fun _ _ _ _ _ => (pg_name (i := 1) scare_separators.nd rfl (by first | exact Or.inl rfl | exact Or.inr rfl))) (fun _ _ _ _ _ => pts_nil) (fun _ _ _ _ _ => (pe_call h_is_key.ok (hr.mono (by first | decide | (show _ ≤ 3 + _; omega))) (by rfl) h_is_key.mg h_is_key.kp h_is_key.b .nil pass0 (pa_cons (pv 1) pa_nil)))) pa_nil))))))) (pss_one (ps_ret pe_bl)) pss_nil)
      (pss_one (ps_ret (pe_and (pe_cmpR op_gt (pe_callB (show CallR _ _ (fun xs H Q => ∃ x n, xs = [x] ∧ LenV K x H n ∧ Q (.int n) H) from call_len) (by rfl) T.len (by decide +kernel) (pa_cons (pv 0) pa_nil)) pe_int (nomark _)) (pe_one (pe_call h_is_ascending.ok (hr.mono (by first | decide | (show _ ≤ 3 + _; omega))) (by rfl) h_is_ascending.mg h_is_ascending.kp h_is_ascending.b .nil pass0 (pa_cons (pv 0) pa_nil))))))), ?_⟩
  rintro as M R hl ⟨x, rfl, hx, k⟩
  try simp only [cxK]
  show SS K _ [some (.d x), none] M _
  refine ss_seq (ss_if ?_)
  repeat walk_at "v"
  refine ⟨fun h => ?_, fun h => ?_⟩
  · repeat walk_at "v"
    exact fin_b k (by cases x <;> simp_all [isTup, sepsD])
  obtain ⟨xs, rfl⟩ := tup_of (by simpa using h)
  have hl1 := hx xs rfl
  repeat walk_at "v"
  refine ee_lc (only_name (by simp)) (ei_tup ?_)
  repeat walk_at "v"
  refine lc_map (fun x => some (.bool (isKey x))) trivial (fun x hx' T' acc ty _ => ?_) ?_ (Nat.le_trans hl1 (by decide))
  · repeat walk_at "v"
    exact ⟨rfl, x, rfl, ty _ rfl⟩
  repeat walk_at "v"
  rw [lc_all]
  refine rc_all (.d _) ?_
  repeat walk_at "v"
  have ea : (xs.map isKey).all id = xs.all isKey := by simp [List.all_map]
  rw [ea]
  refine ⟨fun h2 => ?_, fun h2 => ?_⟩
  · repeat walk_at "v"
    have h3 : xs.all isKey = false := Bool.eq_false_iff.mpr fun z => by rw [z] at h2; cases h2
    exact fin_b k (by rw [sepsD, h3]; rfl)
  have h3 : xs.all isKey = true := by
    cases e : xs.all isKey with
    | true => rfl
    | false => rw [e] at h2; cases h2
  have hi := ints_of (xs := xs) fun x hx => isKey_int (List.all_eq_true.mp h3 x hx)
  have hle : (intsOf xs).length ≤ 10000 := Nat.le_trans (List.length_filterMap_le _ _) hl1
  repeat walk_at "v"
  have e0 : decide ((0 : Int) < (xs.length : Int)) = !xs.isEmpty := by cases xs <;> simp
  rw [e0]
  refine ⟨fun h4 => ?_, fun h4 => ?_⟩
  · repeat walk_at "v"
    exact ⟨rfl, .d (.tuple xs), intsOf xs, rfl, .inl (by rw [← hi]), hle, fin_b k (by simp [sepsD, h3, h4])⟩
  · exact fin_b k (by rw [sepsD, h3, h4]; rfl)
end K49

set_option Elab.async false
set_option linter.all false
set_option maxRecDepth 100000
set_option maxHeartbeats 4000000
namespace K49
open PySem PySem.Spec PyProof.Rows L2 DL
variable {P : Program} {w : World} {K : PySem.W.Frag} {mg : Str → Option Value} {base : Heap}
local macro_rules | `(tactic| walk_at "v") => `(tactic| first
  | (with_reducible refine ssq_asg ?_) | (with_reducible refine ssq_drop ?_) | (with_reducible refine ssq_dput ?_) | (with_reducible refine ssq_par ?_) | (with_reducible refine ss_asg ?_) | (with_reducible refine sg_name ?_) | (with_reducible refine ss_ret ?_) | (with_reducible refine ss_next ?_) | (with_reducible refine ss_dput ?_) | (with_reducible refine ss_drop ?_)
  | (with_reducible refine et_test ?_) | (with_reducible refine et_B ?_) | (with_reducible refine et_not ?_) | (with_reducible refine et_and ?_) | (with_reducible refine et_or ?_) | (with_reducible refine et_ifE ?_)
  | (with_reducible refine ee_andV ?_) | (with_reducible refine ee_orV ?_) | (with_reducible refine ee_notV ?_) | (with_reducible refine ee_chain ?_)
  | (with_reducible refine ee_op ?_) | ((with_reducible refine ee_var (a := ?a1) ?h1 ?_); (case h1 => exact rfl)) | (with_reducible refine ee_int ?_) | (with_reducible refine ee_str ?_) | (with_reducible refine ee_bl ?_) | (with_reducible refine ee_non ?_) | (with_reducible refine ee_ty ?_)
  | (with_reducible refine ee_dget ?_) | (with_reducible refine ee_cb ?_) | (with_reducible refine ea_cons ?_) | (with_reducible refine ea_nil ?_)
  | ((with_reducible refine ee_call ?_)) | (with_reducible refine ee_revT ?_) | (with_reducible refine ee_sl ?_) | (with_reducible refine eo_none ?_) | (with_reducible refine eo_some ?_) | (with_reducible refine rs_tup ?_)
  | (with_reducible refine rr_add ?_) | (with_reducible refine rr_sub ?_) | (with_reducible refine rr_lt ?_) | (with_reducible refine rr_le ?_) | (with_reducible refine rr_gt ?_) | (with_reducible refine rr_ge ?_) | (with_reducible refine rr_eqI ?_) | (with_reducible refine rr_neI ?_) | (with_reducible refine rr_eqStr ?_) | (with_reducible refine rr_neStr ?_)
  | (with_reducible refine rr_eqSS ?_) | (with_reducible refine rr_eqS0T ?_)
  | ((with_reducible refine rr_mod ?h1 ?_); (case h1 => omega)) | ((with_reducible refine rr_pow ?h1 ?_); (case h1 => (refine ⟨by omega, by omega, by omega⟩)))
  | ((with_reducible refine rr_mul ?h1 ?_); (case h1 => (first | exact .inl ⟨by omega, by omega⟩ | exact .inr ⟨by omega, by omega⟩)))
  | ((with_reducible refine rr_fdivW ?h1 ?_); (case h1 => exact cdivW (by omega) (by omega)))
  | (with_reducible refine rc_abs ?_) | (with_reducible refine rc_int_bl ?_) | (with_reducible refine ru_neg ?_) | (with_reducible refine ee_un ?_) | (with_reducible refine ee_if ?_) | (with_reducible refine rc_ord ?_) | (with_reducible refine rc_len_tup ?_)
  | (with_reducible refine rc_isi (kit_tup _) (.d _) ?_) | (with_reducible refine rc_isi (kit_str _) (.d _) ?_) | (with_reducible refine rc_isi (kit_int _) (.d _) ?_) | (with_reducible refine rc_isi (kit_bool _) (.d _) ?_) | (with_reducible refine rc_isi (kit_list _) (.d _) ?_)
  | (with_reducible refine tt ?_) | (with_reducible refine ff ?_) | (with_reducible refine ttN ?_) | (with_reducible refine ffN ?_)
  | (with_reducible refine et_yes ?_) | (with_reducible refine rr_isN ?_) | (with_reducible refine rr_notN ?_) | ((with_reducible refine rr_at (d := ?d1) ?h0 ?h1 ?_); (case h0 => decide); (case h1 => exact rfl)) | ((with_reducible refine rr_atL (d := ?d1) ?h0 ?h1 ?_); (case h0 => decide); (case h1 => exact rfl))
  | (with_reducible refine ee_tup ?_) | (with_reducible refine ee_lst ?_)
  | (with_reducible refine ⟨_, rfl, ?_⟩)
  | (with_reducible refine row0 ?_) | (with_reducible refine row1 ?_) | (with_reducible refine row2 ?_) | (with_reducible refine row3 ?_) | (with_reducible refine row4 ?_) | (with_reducible refine row5 ?_) | (with_reducible refine row6 ?_) | (with_reducible refine row7 ?_) | (with_reducible refine row8 ?_) | (with_reducible refine row9 ?_) | (with_reducible refine row10 ?_) | (with_reducible refine row11 ?_) | (with_reducible refine row12 ?_) | (with_reducible refine row13 ?_) | (with_reducible refine row14 ?_) | (with_reducible refine row15 ?_) | (with_reducible refine row16 ?_) | (with_reducible refine row17 ?_) | (with_reducible refine row18 ?_) | (with_reducible refine row19 ?_) | (with_reducible refine row20 ?_))
/-! ### images -/
def lenD : PyData → Int
  | .tuple xs => xs.length
  | _ => 0
def ascD : PyData → Bool
  | .tuple xs => ascI (intsOf xs)
  | _ => false
def partsD (n : Str) : List PyData → Bool
  | [] => n == "free"
  | [a, b] => if n == "head" then isNum a && isNum b
      else if n == "leaf" then recsD a && linkD b
      else if n == "inner" then sepsD a && areNums b && decide (lenD b = lenD a + 1)
      else n == "piece" && (okText 1 8 a && linkD b)
  | [a, b, c] => n == "space" && (isNum a && isNum c && areNums b && ascD b)
  | _ => false
def imgD : PyData → Bool
  | .tuple (.str n :: rest) => partsD n rest
  | _ => false
def lenI (n : Str) : Option Int :=
  if n = "head" then some 3 else if n = "space" then some 4 else if n = "leaf" then some 3 else if n = "inner" then some 3 else if n = "piece" then some 3 else if n = "free" then some 1 else none
def lenG (n : Str) : PyData := match lenI n with
  | some i => .int i
  | none => .none
def lenV (n : Str) : V := match lenI n with
  | some i => .int i
  | none => .non
theorem len_gv (K : PySem.W.Frag) (F : Hp) (n : Str) : Dt K F (lenV n) (lenG n) := by
  unfold lenV lenG
  cases lenI n with
  | some i => exact .int i
  | none => exact .non
theorem shaped_int (i : Int) : SeqAt.shaped (.int i) = true := by
  unfold SeqAt.shaped
  simp [PyData.canLay0, PyData.depth]
theorem shaped_len (n : Str) : SeqAt.shaped (lenG n) = true := by
  unfold lenG
  cases lenI n with
  | some i => exact shaped_int i
  | none => unfold SeqAt.shaped; simp [PyData.canLay0, PyData.depth]
theorem lenG_of {n : Str} {i : Int} (h : lenI n = some i) : lenG n = .int i := by
  unfold lenG
  rw [h]
theorem len_right {n : Str} {rest : List PyData} (h : partsD n rest = true) : lenG n = .int ((PyData.str n :: rest).length : Nat) := by
  match rest, h with
  | [], h =>
    have : n = "free" := by simpa [partsD] using h
    subst this
    exact lenG_of (i := 1) (by decide +kernel)
  | [a], h => simp [partsD] at h
  | [a, b], h =>
    simp only [partsD] at h
    by_cases h1 : n = "head"
    · subst h1; exact lenG_of (i := 3) (by decide +kernel)
    by_cases h2 : n = "leaf"
    · subst h2; exact lenG_of (i := 3) (by decide +kernel)
    by_cases h3 : n = "inner"
    · subst h3; exact lenG_of (i := 3) (by decide +kernel)
    simp [h1, h2, h3] at h
    obtain ⟨h4, _⟩ := h
    subst h4
    exact lenG_of (i := 3) (by decide +kernel)
  | [a, b, c], h =>
    have : n = "space" := by
      simp [partsD] at h
      exact h.1
    subst this
    exact lenG_of (i := 4) (by decide +kernel)
  | _ :: _ :: _ :: _ :: _, h => simp [partsD] at h
theorem len_cases {n : Str} {rest : List PyData} (h : PyData.eqv (.int ((PyData.str n :: rest).length : Nat)) (lenG n) = true) :
    ((n = "head" ∨ n = "leaf" ∨ n = "inner" ∨ n = "piece") ∧ ∃ a b, rest = [a, b]) ∨ (n = "space" ∧ ∃ a b c, rest = [a, b, c]) ∨ (n = "free" ∧ rest = []) := by
  have two : rest.length = 2 → ∃ a b, rest = [a, b] := fun e => by
    match rest, e with
    | [a, b], _ => exact ⟨a, b, rfl⟩
  have three : rest.length = 3 → ∃ a b c, rest = [a, b, c] := fun e => by
    match rest, e with
    | [a, b, c], _ => exact ⟨a, b, c, rfl⟩
  unfold lenG at h
  cases e : lenI n with
  | none => rw [e] at h; simp [PyData.eqv] at h
  | some i =>
    rw [e] at h
    have hi : ((rest.length : Int) + 1 = i) := by
      simp [PyData.eqv] at h
      exact h
    unfold lenI at e
    split at e
    · rename_i z; exact .inl ⟨.inl z, two (by injection e; omega)⟩
    split at e
    · rename_i z; exact .inr (.inl ⟨z, three (by injection e; omega)⟩)
    split at e
    · rename_i z; exact .inl ⟨.inr (.inl z), two (by injection e; omega)⟩
    split at e
    · rename_i z; exact .inl ⟨.inr (.inr (.inl z)), two (by injection e; omega)⟩
    split at e
    · rename_i z; exact .inl ⟨.inr (.inr (.inr z)), two (by injection e; omega)⟩
    split at e
    · rename_i z; exact .inr (.inr ⟨z, List.length_eq_zero_iff.mp (by injection e; omega)⟩)
    · cases e
theorem ifT {p : Prop} [Decidable p] {A B : Prop} (h : p) (a : A) : (decide p = true → A) ∧ (decide p = false → B) := ⟨fun _ => a, fun z => absurd h (of_decide_eq_false z)⟩
theorem ifF {p : Prop} [Decidable p] {A B : Prop} (h : ¬ p) (b : B) : (decide p = true → A) ∧ (decide p = false → B) := ⟨fun z => absurd (of_decide_eq_true z) h, fun _ => b⟩
/-- every part is small -/
structure Tidy (x : PyData) : Prop where
  len : ∀ xs, x = .tuple xs → xs.length ≤ 10000
  one : ∀ xs y, x = .tuple xs → y ∈ xs → Small y ∧ SmallAll y
-- slots: 0:value 1:name
abbrev sis_image : Stmt := top 16
theorem scis_image : FnScope ["value", "name"] ["value"] (defScope sis_image) := ⟨rfl, rfl, rfl, by decide +kernel, rfl, by decide +kernel, by decide +kernel⟩
def S_is_image : SpD := fun as M R => ∃ x, as = [.d x] ∧ Tidy x ∧ R (.d (.bool (imgD x))) M
theorem ok_is_image {f : Addr} {fd : FuncData} {aL : Addr} (Fn : Fun K "is_image" "is_image" sis_image f fd) (T : Bt mg) (hLENGTHS : ∃ u, mg "LENGTHS" = some u ∧ L2.RelV (.ref aL) u) (A0 : KAsk K w aL lenV)
    (h_is_number : Has P w K mg base "is_number" 2 ["value"] S_is_number) (h_are_numbers : Has P w K mg base "are_numbers" 3 ["value"] S_are_numbers) (h_is_ascending : Has P w K mg base "is_ascending" 1 ["row"] S_is_ascending)
    (h_are_held_records : Has P w K mg base "are_held_records" 5 ["value"] S_are_held_records) (h_is_link : Has P w K mg base "is_link" 3 ["value"] S_is_link) (h_are_separators : Has P w K mg base "are_separators" 3 ["value"] S_are_separators)
    (h_is_text : Has P w K mg base "is_text" 1 ["value", "least", "most"] S_is_text) : FnOk P w K mg base CX0 6 f fd ["value"] (toSp K 1 S_is_image) := by
  refine def_ok Fn scis_image (fun cdv A outer s H E hr => ?_)
  have hu := hu_of hr
  refine ⟨_, (pss_cons (ps_if (PW.pt (pw_or (pt_not (pt_val (pe_callB (show CallR _ _ (rIsi K) from call_isi) (by rfl) T.isinstance (by decide +kernel) (pa_cons (pv 0) (pa_cons (pe_bltn (v := .ty "tuple") (by rfl) T.tuple (by decide +kernel) rfl) pa_nil))))) (pw_or (pt_not (pt_truth (pv 0) (by intro _; rfl))) (pw_or1 (pt_not (pt_val (pe_callB (show CallR _ _ (rIsi K) from call_isi) (by rfl) T.isinstance (by decide +kernel) (pa_cons (pe_ix (show IxR _ (rIx K) from ix_seq) (pv 0) pe_int (fun _ _ => rfl)) (pa_cons (pe_bltn (v := .ty "str") (by rfl) T.str (by decide +kernel) rfl) pa_nil))))))))) (pss_one (ps_ret pe_bl)) pss_nil)
      (pss_cons (ps_set (i := 1) scis_image.nd rfl (by first | exact Or.inl rfl | exact Or.inr rfl) (pe_ix (show IxR _ (rIx K) from ix_seq) (pv 0) pe_int (fun _ _ => rfl)))
      (pss_cons (ps_if (pt_cmpR (show OpR _ _ (rNeD K) from op_neD hr.units) (pe_callB (show CallR _ _ (fun xs H Q => ∃ x n, xs = [x] ∧ LenV K x H n ∧ Q (.int n) H) from call_len) (by rfl) T.len (by decide +kernel) (pa_cons (pv 0) pa_nil)) (pe_ask A0 (pe_glob rfl hLENGTHS.choose_spec.1 hLENGTHS.choose_spec.2) (pv 1) ⟨rfl, rfl, rfl, rfl⟩) (nomark _)) (pss_one (ps_ret pe_bl)) pss_nil)
      (pss_cons (ps_if (pt_cmpR op_eq (pv 1) pe_str (nomark _)) (pss_one (ps_ret (pe_call h_are_numbers.ok (hr.mono (by first | decide | (show _ ≤ 3 + _; omega))) (by rfl) h_are_numbers.mg h_are_numbers.kp h_are_numbers.b .nil pass0 (pa_cons (pe_slice (show SlR _ (rSlA K) from sl_tupA) (pv 0) (po_some pe_int) po_none) pa_nil)))) pss_nil)
      (pss_cons (ps_if (pt_cmpR op_eq (pv 1) pe_str (nomark _)) (pss_one (ps_ret (pe_and (pe_call h_are_numbers.ok (hr.mono (by first | decide | (show _ ≤ 3 + _; omega))) (by rfl) h_are_numbers.mg h_are_numbers.kp h_are_numbers.b .nil pass0 (pa_cons (pe_tup (pa_cons (pe_ix (show IxR _ (rIx K) from ix_seq) (pv 0) pe_int (fun _ _ => rfl)) (pa_cons (pe_ix (show IxR _ (rIx K) from ix_seq) (pv 0) pe_int (fun _ _ => rfl)) pa_nil))) pa_nil)) (pe_and (pe_call h_are_numbers.ok (hr.mono (by first | decide | (show _ ≤ 3 + _; omega))) (by rfl) h_are_numbers.mg h_are_numbers.kp h_are_numbers.b .nil pass0 (pa_cons (pe_ix (show IxR _ (rIx K) from ix_seq) (pv 0) pe_int (fun _ _ => rfl)) pa_nil)) (pe_one (pe_call h_is_ascending.ok (hr.mono (by first | decide | (show _ ≤ 3 + _; omega))) (by rfl) h_is_ascending.mg h_is_ascending.kp h_is_ascending.b .nil pass0 (pa_cons (pe_ix (show IxR _ (rIx K) from ix_seq) (pv 0) pe_int (fun _ _ => rfl)) pa_nil))))))) pss_nil)
      (pss_cons (ps_if (pt_cmpR op_eq (pv 1) pe_str (nomark _)) (pss_one (ps_ret (pe_and (pe_call h_are_held_records.ok (hr.mono (by first | decide | (show _ ≤ 3 + _; omega))) (by rfl) h_are_held_records.mg h_are_held_records.kp h_are_held_records.b .nil pass0 (pa_cons (pe_ix (show IxR _ (rIx K) from ix_seq) (pv 0) pe_int (fun _ _ => rfl)) pa_nil)) (pe_one (pe_call h_is_link.ok (hr.mono (by first | decide | (show _ ≤ 3 + _; omega))) (by rfl) h_is_link.mg h_is_link.kp h_is_link.b .nil pass0 (pa_cons (pe_ix (show IxR _ (rIx K) from ix_seq) (pv 0) pe_int (fun _ _ => rfl)) pa_nil)))))) pss_nil)
      (pss_cons (ps_if (pt_cmpR op_eq (pv 1) pe_str (nomark _)) (pss_one (ps_ret (pe_and (pe_call h_are_separators.ok (hr.mono (by first | decide | (show _ ≤ 3 + _; omega))) (by rfl) h_are_separators.mg h_are_separators.kp h_are_separators.b .nil pass0 (pa_cons (pe_ix (show IxR _ (rIx K) from ix_seq) (pv 0) pe_int (fun _ _ => rfl)) pa_nil)) (pe_and (pe_call h_are_numbers.ok (hr.mono (by first | decide | (show _ ≤ 3 + _; omega))) (by rfl) h_are_numbers.mg h_are_numbers.kp h_are_numbers.b .nil pass0 (pa_cons (pe_ix (show IxR _ (rIx K) from ix_seq) (pv 0) pe_int (fun _ _ => rfl)) pa_nil)) (pe_one (pe_cmpR op_eq (pe_callB (show CallR _ _ (fun xs H Q => ∃ x n, xs = [x] ∧ LenV K x H n ∧ Q (.int n) H) from call_len) (by rfl) T.len (by decide +kernel) (pa_cons (pe_ix (show IxR _ (rIx K) from ix_seq) (pv 0) pe_int (fun _ _ => rfl)) pa_nil)) (pe_op op_add (pe_callB (show CallR _ _ (fun xs H Q => ∃ x n, xs = [x] ∧ LenV K x H n ∧ Q (.int n) H) from call_len) (by rfl) T.len (by decide +kernel) (pa_cons (pe_ix (show IxR _ (rIx K) from ix_seq) (pv 0) pe_int (fun _ _ => rfl)) pa_nil)) pe_int) (nomark _))))))) pss_nil)
      (pss_cons (ps_if (pt_cmpR op_eq (pv 1) pe_str (nomark _)) (pss_one (ps_ret (pe_and (pe_call h_is_text.ok (hr.mono (by first | decide | (show _ ≤ 3 + _; omega))) (by rfl) h_is_text.mg h_is_text.kp h_is_text.b .nil pass0 (pa_cons (pe_ix (show IxR _ (rIx K) from ix_seq) (pv 0) pe_int (fun _ _ => rfl)) (pa_cons pe_int (pa_cons (pe_glob rfl T.m_SHORT_MOST.choose_spec.1 T.m_SHORT_MOST.choose_spec.2) pa_nil)))) (pe_one (pe_call h_is_link.ok (hr.mono (by first | decide | (show _ ≤ 3 + _; omega))) (by rfl) h_is_link.mg h_is_link.kp h_is_link.b .nil pass0 (pa_cons (pe_ix (show IxR _ (rIx K) from ix_seq) (pv 0) pe_int (fun _ _ => rfl)) pa_nil)))))) pss_nil)
      (pss_one (ps_ret (pe_cmpR op_eq (pv 1) pe_str (nomark _)))))))))))), ?_⟩
  rintro as M R hl ⟨x, rfl, hx, k⟩
  try simp only [cxK]
  show SS K _ [some (.d x), none] M _
  refine ss_seq (ss_if ?_)
  repeat walk_at "v"
  refine ⟨fun h => ?_, fun h => ?_⟩
  · repeat walk_at "v"
    exact fin_b k (by cases x <;> simp_all [isTup, imgD])
  obtain ⟨xs, rfl⟩ := tup_of (by simpa using h)
  repeat walk_at "v"
  refine et_truth ?_
  repeat walk_at "v"
  refine ⟨.tuple xs, .d _, fun z e => (nomatch e), ?_⟩
  match xs, hx, k with
  | [], _, k =>
    show ((!tru (.tuple [])) = true → _) ∧ _
    refine ttN ?_
    repeat walk_at "v"
    exact fin_b k rfl
  | v0 :: rest, hx, k =>
    have hlen := hx.len _ rfl
    have hone := fun y hy => hx.one (v0 :: rest) y rfl hy
    show ((!tru (.tuple (v0 :: rest))) = true → _) ∧ _
    refine ffN ?_
    repeat walk_at "v"
    refine ⟨fun h1 => ?_, fun h1 => ?_⟩
    · repeat walk_at "v"
      exact fin_b k (by cases v0 <;> simp_all [isStr, imgD])
    obtain ⟨n, rfl⟩ : ∃ n, v0 = .str n := by
      cases v0 <;> simp [isStr] at h1
      exact ⟨_, rfl⟩
    repeat walk_at "v"
    refine ss_seq (ss_if ?_)
    repeat walk_at "v"
    refine ee_ask (w := w) len_gv ?_
    refine ee_ref ?_
    refine ⟨rfl, ?_⟩
    repeat walk_at "v"
    refine rr_neD (.d _) (.d _) (shaped_int _) (shaped_len n) ?_
    repeat walk_at "v"
    refine ⟨fun h2 => ?_, fun h2 => ?_⟩
    · repeat walk_at "v"
      refine fin_b k ?_
      cases e : partsD n rest with
      | false => simp [imgD, e]
      | true =>
        rw [len_right e] at h2
        simp [PyData.eqv] at h2
    have hc := len_cases (n := n) (rest := rest) (by
      cases e : PyData.eqv (PyData.int ((PyData.str n :: rest).length : Nat)) (lenG n) with
      | true => rfl
      | false => rw [e] at h2; cases h2)
    have kk : R (.d (.bool (partsD n rest))) M := k
    clear k h2
    have cut : cutL (PyData.str n :: rest) (some 1) none = rest := cut1 _
    refine ss_next ?_
    rcases hc with ⟨hn | hn | hn | hn, a, b, rfl⟩ | ⟨hn, a, b, c, rfl⟩ | ⟨hn, rfl⟩
    · -- head
      refine ss_seq (ss_if ?_)
      repeat walk_at "v"
      refine ifT hn ?_
      repeat walk_at "v"
      rw [cut]
      exact ⟨rfl, .tuple [a, b], rfl, fun xs e => by cases e; simp, fin_b kk (by rw [hn]; simp [partsD, areNums])⟩
    · -- leaf
      refine ss_seq (ss_if ?_)
      repeat walk_at "v"
      refine ifF (by rw [hn]; decide +kernel) ?_
      refine ss_next ?_
      refine ss_seq (ss_if ?_)
      repeat walk_at "v"
      refine ifF (by rw [hn]; decide +kernel) ?_
      refine ss_next ?_
      refine ss_seq (ss_if ?_)
      repeat walk_at "v"
      refine ifT hn ?_
      repeat walk_at "v"
      have ha := hone a (by simp)
      refine ⟨rfl, a, rfl, ha.2, _, rfl, fun g1 => ?_, fun g1 => ?_⟩
      · repeat walk_at "v"
        exact ⟨rfl, b, rfl, fin_b kk (by rw [hn]; simp [partsD, g1, show ¬ (Str.ofString "leaf" = Str.ofString "head") by decide +kernel])⟩
      · exact fin_b kk (by rw [hn]; simp [partsD, g1, show ¬ (Str.ofString "leaf" = Str.ofString "head") by decide +kernel])
    · -- inner
      refine ss_seq (ss_if ?_)
      repeat walk_at "v"
      refine ifF (by rw [hn]; decide +kernel) ?_
      refine ss_next ?_
      refine ss_seq (ss_if ?_)
      repeat walk_at "v"
      refine ifF (by rw [hn]; decide +kernel) ?_
      refine ss_next ?_
      refine ss_seq (ss_if ?_)
      repeat walk_at "v"
      refine ifF (by rw [hn]; decide +kernel) ?_
      refine ss_next ?_
      refine ss_seq (ss_if ?_)
      repeat walk_at "v"
      refine ifT hn ?_
      repeat walk_at "v"
      have ha := hone a (by simp)
      have hb := hone b (by simp)
      have eq : partsD n [a, b] = (sepsD a && areNums b && decide (lenD b = lenD a + 1)) := by
        rw [hn]; simp [partsD, show ¬ (Str.ofString "inner" = Str.ofString "head") by decide +kernel, show ¬ (Str.ofString "inner" = Str.ofString "leaf") by decide +kernel]
      rw [eq] at kk
      refine ⟨rfl, a, rfl, ha.1.2, _, rfl, fun g1 => ?_, fun g1 => ?_⟩
      · repeat walk_at "v"
        refine ⟨rfl, b, rfl, hb.1.2, _, rfl, fun g2 => ?_, fun g2 => ?_⟩
        · obtain ⟨as, rfl⟩ : ∃ as, a = .tuple as := by
            cases a <;> simp [sepsD] at g1
            exact ⟨_, rfl⟩
          obtain ⟨bs, rfl⟩ : ∃ bs, b = .tuple bs := by
            cases b <;> simp [areNums] at g2
            exact ⟨_, rfl⟩
          repeat walk_at "v"
          exact fin_b kk (by rw [g1, g2]; rfl)
        · exact fin_b kk (by rw [g1, g2]; rfl)
      · exact fin_b kk (by rw [g1]; rfl)
    · -- piece
      refine ss_seq (ss_if ?_)
      repeat walk_at "v"
      refine ifF (by rw [hn]; decide +kernel) ?_
      refine ss_next ?_
      refine ss_seq (ss_if ?_)
      repeat walk_at "v"
      refine ifF (by rw [hn]; decide +kernel) ?_
      refine ss_next ?_
      refine ss_seq (ss_if ?_)
      repeat walk_at "v"
      refine ifF (by rw [hn]; decide +kernel) ?_
      refine ss_next ?_
      refine ss_seq (ss_if ?_)
      repeat walk_at "v"
      refine ifF (by rw [hn]; decide +kernel) ?_
      refine ss_next ?_
      refine ss_seq (ss_if ?_)
      repeat walk_at "v"
      refine ifT hn ?_
      repeat walk_at "v"
      have ha := hone a (by simp)
      have eq : partsD n [a, b] = (okText 1 8 a && linkD b) := by
        rw [hn]; simp [partsD, show ¬ (Str.ofString "piece" = Str.ofString "head") by decide +kernel, show ¬ (Str.ofString "piece" = Str.ofString "leaf") by decide +kernel, show ¬ (Str.ofString "piece" = Str.ofString "inner") by decide +kernel]
      rw [eq] at kk
      refine ⟨rfl, a, 1, 8, rfl, ha.1.1, _, rfl, fun g1 => ?_, fun g1 => ?_⟩
      · repeat walk_at "v"
        exact ⟨rfl, b, rfl, fin_b kk (by rw [g1]; rfl)⟩
      · exact fin_b kk (by rw [g1]; rfl)
    · -- space
      refine ss_seq (ss_if ?_)
      repeat walk_at "v"
      refine ifF (by rw [hn]; decide +kernel) ?_
      refine ss_next ?_
      refine ss_seq (ss_if ?_)
      repeat walk_at "v"
      refine ifT hn ?_
      repeat walk_at "v"
      have hb := hone b (by simp)
      have eq : partsD n [a, b, c] = (isNum a && isNum c && areNums b && ascD b) := by
        rw [hn]; simp [partsD]
      rw [eq] at kk
      repeat walk_at "v"
      refine ⟨rfl, .tuple [a, c], rfl, fun xs e => by cases e; simp, _, rfl, fun g1 => ?_, fun g1 => ?_⟩
      · have g1' : isNum a = true ∧ isNum c = true := by simpa [areNums] using g1
        repeat walk_at "v"
        refine ⟨rfl, b, rfl, hb.1.2, _, rfl, fun g2 => ?_, fun g2 => ?_⟩
        · obtain ⟨bs, rfl⟩ : ∃ bs, b = .tuple bs := by
            cases b <;> simp [areNums] at g2
            exact ⟨_, rfl⟩
          have g3 : bs.all isNum = true := g2
          have hi := ints_of (xs := bs) fun x hx => isNum_int (List.all_eq_true.mp g3 x hx)
          repeat walk_at "v"
          exact ⟨rfl, .d (.tuple bs), intsOf bs, rfl, .inl (by rw [← hi]), Nat.le_trans (List.length_filterMap_le _ _) (hb.1.2 bs rfl), fin_b kk (by rw [g1'.1, g1'.2, g2]; rfl)⟩
        · exact fin_b kk (by rw [g2]; simp)
      · exact fin_b kk (by
          have : (isNum a && isNum c) = false := by simpa [areNums] using g1
          rw [this]; rfl)
    · -- free
      refine ss_seq (ss_if ?_)
      repeat walk_at "v"
      refine ifF (by rw [hn]; decide +kernel) ?_
      refine ss_next ?_
      refine ss_seq (ss_if ?_)
      repeat walk_at "v"
      refine ifF (by rw [hn]; decide +kernel) ?_
      refine ss_next ?_
      refine ss_seq (ss_if ?_)
      repeat walk_at "v"
      refine ifF (by rw [hn]; decide +kernel) ?_
      refine ss_next ?_
      refine ss_seq (ss_if ?_)
      repeat walk_at "v"
      refine ifF (by rw [hn]; decide +kernel) ?_
      refine ss_next ?_
      refine ss_seq (ss_if ?_)
      repeat walk_at "v"
      refine ifF (by rw [hn]; decide +kernel) ?_
      refine ss_next ?_
      repeat walk_at "v"
      exact fin_b kk (by rw [hn]; decide +kernel)
-- slots: 
abbrev sempty_file : Stmt := top 22
theorem scempty_file : FnScope [] [] (defScope sempty_file) := ⟨rfl, rfl, rfl, by decide +kernel, rfl, by decide +kernel, by decide +kernel⟩
def emptyD : PyData := .tuple [.tuple [.str "head", .int 2, .int 0], .tuple [.str "space", .int 3, .tuple [], .int 0], .tuple [.str "leaf", .tuple [], .none]]
def S_empty_file : SpD := fun as M R => as = [] ∧ R (.d emptyD) M
theorem ok_empty_file {f : Addr} {fd : FuncData} (Fn : Fun K "empty_file" "empty_file" sempty_file f fd) (T : Bt mg) : FnOk P w K mg base CX0 1 f fd [] (toSp K 0 S_empty_file) := by
  refine def_ok Fn scempty_file (fun cdv A outer s H E hr => ?_)
  refine ⟨_, (pss_one (ps_ret (pe_tup (pa_cons (pe_tup (pa_cons pe_str (pa_cons pe_int (pa_cons pe_int pa_nil)))) (pa_cons (pe_tup (pa_cons pe_str (pa_cons pe_int (pa_cons (pe_tup pa_nil) (pa_cons pe_int pa_nil))))) (pa_cons (pe_tup (pa_cons pe_str (pa_cons (pe_tup pa_nil) (pa_cons pe_non pa_nil)))) pa_nil)))))), ?_⟩
  rintro as M R hl ⟨rfl, k⟩
  try simp only [cxK]
  show SS K _ [] M _
  repeat walk_at "v"
  exact fin_d k
end K49

set_option Elab.async false
set_option linter.all false
set_option maxRecDepth 100000
set_option maxHeartbeats 4000000
namespace K49
open PySem PySem.Spec PyProof.Rows L2 DL
variable {P : Program} {w : World} {K : PySem.W.Frag} {mg : Str → Option Value} {base : Heap}
local macro_rules | `(tactic| walk_at "v") => `(tactic| first
  | (with_reducible refine ssq_asg ?_) | (with_reducible refine ssq_drop ?_) | (with_reducible refine ssq_dput ?_) | (with_reducible refine ssq_par ?_) | (with_reducible refine ss_asg ?_) | (with_reducible refine sg_name ?_) | (with_reducible refine ss_ret ?_) | (with_reducible refine ss_next ?_) | (with_reducible refine ss_dput ?_) | (with_reducible refine ss_drop ?_)
  | (with_reducible refine et_test ?_) | (with_reducible refine et_B ?_) | (with_reducible refine et_not ?_) | (with_reducible refine et_and ?_) | (with_reducible refine et_or ?_) | (with_reducible refine et_ifE ?_)
  | (with_reducible refine ee_andV ?_) | (with_reducible refine ee_orV ?_) | (with_reducible refine ee_notV ?_) | (with_reducible refine ee_chain ?_)
  | (with_reducible refine ee_op ?_) | ((with_reducible refine ee_var (a := ?a1) ?h1 ?_); (case h1 => exact rfl)) | (with_reducible refine ee_int ?_) | (with_reducible refine ee_str ?_) | (with_reducible refine ee_bl ?_) | (with_reducible refine ee_non ?_) | (with_reducible refine ee_ty ?_)
  | (with_reducible refine ee_dget ?_) | (with_reducible refine ee_cb ?_) | (with_reducible refine ea_cons ?_) | (with_reducible refine ea_nil ?_)
  | ((with_reducible refine ee_call ?_)) | (with_reducible refine ee_revT ?_) | (with_reducible refine ee_sl ?_) | (with_reducible refine eo_none ?_) | (with_reducible refine eo_some ?_) | (with_reducible refine rs_tup ?_)
  | (with_reducible refine rr_add ?_) | (with_reducible refine rr_sub ?_) | (with_reducible refine rr_lt ?_) | (with_reducible refine rr_le ?_) | (with_reducible refine rr_gt ?_) | (with_reducible refine rr_ge ?_) | (with_reducible refine rr_eqI ?_) | (with_reducible refine rr_neI ?_) | (with_reducible refine rr_eqStr ?_) | (with_reducible refine rr_neStr ?_)
  | (with_reducible refine rr_eqSS ?_) | (with_reducible refine rr_eqS0T ?_)
  | ((with_reducible refine rr_mod ?h1 ?_); (case h1 => omega)) | ((with_reducible refine rr_pow ?h1 ?_); (case h1 => (refine ⟨by omega, by omega, by omega⟩)))
  | ((with_reducible refine rr_mul ?h1 ?_); (case h1 => (first | exact .inl ⟨by omega, by omega⟩ | exact .inr ⟨by omega, by omega⟩)))
  | ((with_reducible refine rr_fdivW ?h1 ?_); (case h1 => exact cdivW (by omega) (by omega)))
  | (with_reducible refine rc_abs ?_) | (with_reducible refine rc_int_bl ?_) | (with_reducible refine ru_neg ?_) | (with_reducible refine ee_un ?_) | (with_reducible refine ee_if ?_) | (with_reducible refine rc_ord ?_) | (with_reducible refine rc_len_tup ?_)
  | (with_reducible refine rc_isi (kit_tup _) (.d _) ?_) | (with_reducible refine rc_isi (kit_str _) (.d _) ?_) | (with_reducible refine rc_isi (kit_int _) (.d _) ?_) | (with_reducible refine rc_isi (kit_bool _) (.d _) ?_) | (with_reducible refine rc_isi (kit_list _) (.d _) ?_)
  | (with_reducible refine tt ?_) | (with_reducible refine ff ?_) | (with_reducible refine ttN ?_) | (with_reducible refine ffN ?_)
  | (with_reducible refine et_yes ?_) | (with_reducible refine rr_isN ?_) | (with_reducible refine rr_notN ?_) | ((with_reducible refine rr_at (d := ?d1) ?h0 ?h1 ?_); (case h0 => decide); (case h1 => exact rfl)) | ((with_reducible refine rr_atL (d := ?d1) ?h0 ?h1 ?_); (case h0 => decide); (case h1 => exact rfl))
  | (with_reducible refine ee_tup ?_) | (with_reducible refine ee_lst ?_)
  | (with_reducible refine ⟨_, rfl, ?_⟩)
  | (with_reducible refine row0 ?_) | (with_reducible refine row1 ?_) | (with_reducible refine row2 ?_) | (with_reducible refine row3 ?_) | (with_reducible refine row4 ?_) | (with_reducible refine row5 ?_) | (with_reducible refine row6 ?_) | (with_reducible refine row7 ?_) | (with_reducible refine row8 ?_) | (with_reducible refine row9 ?_) | (with_reducible refine row10 ?_) | (with_reducible refine row11 ?_) | (with_reducible refine row12 ?_) | (with_reducible refine row13 ?_) | (with_reducible refine row14 ?_) | (with_reducible refine row15 ?_) | (with_reducible refine row16 ?_) | (with_reducible refine row17 ?_) | (with_reducible refine row18 ?_) | (with_reducible refine row19 ?_) | (with_reducible refine row20 ?_))
/-! ### the law's own look -/
-- slots: 0:_law_thing
abbrev s_law_is_number : Stmt := top 27
theorem sc_law_is_number : FnScope ["_law_thing"] ["_law_thing"] (defScope s_law_is_number) := ⟨rfl, rfl, rfl, by decide +kernel, rfl, by decide +kernel, by decide +kernel⟩
theorem ok__law_is_number {f : Addr} {fd : FuncData} (Fn : Fun K "_law_is_number" "_law_is_number" s_law_is_number f fd) (T : Bt mg) : FnOk P w K mg base CX0 1 f fd ["_law_thing"] (toSp K 1 S_is_number) := by
  refine def_ok Fn sc_law_is_number (fun cdv A outer s H E hr => ?_)
  refine ⟨_, (pss_one (ps_ret (pe_and (pe_callB (show CallR _ _ (rIsi K) from call_isi) (by rfl) T.isinstance (by decide +kernel) (pa_cons (pv 0) (pa_cons (pe_bltn (v := .ty "int") (by rfl) T.int (by decide +kernel) rfl) pa_nil))) (pe_and (pe_not (pe_callB (show CallR _ _ (rIsi K) from call_isi) (by rfl) T.isinstance (by decide +kernel) (pa_cons (pv 0) (pa_cons (pe_bltn (v := .ty "bool") (by rfl) T.bool (by decide +kernel) rfl) pa_nil)))) (pe_one (pe_cmpR op_ge (pv 0) pe_int (nomark _))))))), ?_⟩
  rintro as M R hl ⟨x, rfl, k⟩
  try simp only [cxK]
  show SS K _ [some (.d x)] M _
  repeat walk_at "v"
  refine ⟨fun h => ?_, fun h => ?_⟩
  · repeat walk_at "v"
    refine ⟨fun h1 => ?_, fun h1 => ?_⟩
    · obtain ⟨i, rfl⟩ : ∃ i, x = .int i := by cases x <;> simp_all [DL.isInt, isBl]
      repeat walk_at "v"
      exact fin_b k rfl
    · exact fin_b k (by cases x <;> simp_all [isNum, isBl])
  · exact fin_b k (by cases x <;> simp_all [isNum, DL.isInt])
-- slots: 0:_law_thing
abbrev s_law_is_key : Stmt := top 28
theorem sc_law_is_key : FnScope ["_law_thing"] ["_law_thing"] (defScope s_law_is_key) := ⟨rfl, rfl, rfl, by decide +kernel, rfl, by decide +kernel, by decide +kernel⟩
theorem ok__law_is_key {f : Addr} {fd : FuncData} (Fn : Fun K "_law_is_key" "_law_is_key" s_law_is_key f fd) (T : Bt mg) : FnOk P w K mg base CX0 1 f fd ["_law_thing"] (toSp K 1 S_is_key) := by
  refine def_ok Fn sc_law_is_key (fun cdv A outer s H E hr => ?_)
  refine ⟨_, (pss_one (ps_ret (pe_and (pe_callB (show CallR _ _ (rIsi K) from call_isi) (by rfl) T.isinstance (by decide +kernel) (pa_cons (pv 0) (pa_cons (pe_bltn (v := .ty "int") (by rfl) T.int (by decide +kernel) rfl) pa_nil))) (pe_and (pe_not (pe_callB (show CallR _ _ (rIsi K) from call_isi) (by rfl) T.isinstance (by decide +kernel) (pa_cons (pv 0) (pa_cons (pe_bltn (v := .ty "bool") (by rfl) T.bool (by decide +kernel) rfl) pa_nil)))) (pe_one (pe_chain op_lt op_lt (pe_un un_neg (pe_op op_pow pe_int pe_int)) (pv 0) (pe_op op_pow pe_int pe_int))))))), ?_⟩
  rintro as M R hl ⟨x, rfl, k⟩
  try simp only [cxK]
  show SS K _ [some (.d x)] M _
  have ten : (10 : Int) ^ (15 : Int).toNat = 1000000000000000 := by decide
  repeat walk_at "v"
  refine ⟨fun h => ?_, fun h => ?_⟩
  · repeat walk_at "v"
    refine ⟨fun h1 => ?_, fun h1 => ?_⟩
    · obtain ⟨i, rfl⟩ : ∃ i, x = .int i := by cases x <;> simp_all [DL.isInt, isBl]
      repeat walk_at "v"
      rw [ten]
      refine ⟨fun h2 => ?_, fun h2 => ?_⟩
      · repeat walk_at "v"
        rw [ten]
        refine fin_b k ?_
        simp at h2
        simp only [isKey]
        by_cases z : i < 1000000000000000
        · simp [z]; omega
        · simp [z]; omega
      · refine fin_b k ?_
        simp at h2
        simp only [isKey]
        simp; omega
    · exact fin_b k (by cases x <;> simp_all [isKey, isBl])
  · exact fin_b k (by cases x <;> simp_all [isKey, DL.isInt])
-- slots: 0:_law_thing 1:_law_are_keys 2:_law_k 3:_law_item
abbrev s_law_is_rising : Stmt := top 29
theorem sc_law_is_rising : FnScope ["_law_thing", "_law_are_keys", "_law_k", "_law_item"] ["_law_thing", "_law_are_keys"] (defScope s_law_is_rising) := ⟨rfl, rfl, rfl, by decide +kernel, rfl, by decide +kernel, by decide +kernel⟩
def okItem (b : Bool) (x : PyData) : Bool := if b then isKey x else isNum x
def risD (b : Bool) : PyData → Bool
  | .tuple xs => xs.all (okItem b) && ascI (intsOf xs)
  | _ => false
def S_rising : SpD := fun as M R => ∃ x b, as = [.d x, .d (.bool b)] ∧ (∀ xs, x = .tuple xs → xs.length ≤ 10000) ∧ R (.d (.bool (risD b x))) M
theorem okItem_int {b : Bool} {x : PyData} (h : okItem b x = true) : ∃ i, x = .int i := by
  unfold okItem at h
  split at h
  · exact isKey_int h
  · exact isNum_int h
theorem ascI_iff {ns : List Int} : ascI ns = true ↔ ∀ (j : Nat) (x y : Int), ns[j]? = some x → ns[j + 1]? = some y → x < y := by
  unfold ascI
  rw [List.all_eq_true]
  constructor
  · intro h j x y hx hy
    have hz : (ns.zip (ns.drop 1))[j]? = some (x, y) := by
      rw [List.getElem?_zip_eq_some]
      exact ⟨hx, by rw [List.getElem?_drop, Nat.add_comm]; exact hy⟩
    simpa using h _ (List.mem_of_getElem? hz)
  · rintro h ⟨x, y⟩ hp
    obtain ⟨j, hj⟩ := List.getElem?_of_mem hp
    rw [List.getElem?_zip_eq_some, List.getElem?_drop, Nat.add_comm] at hj
    simpa using h j x y hj.1 hj.2
theorem place_at {xs : List PyData} {i : Nat} {a : AV} (h : ((places xs).map AV.d)[i]? = some a) : ∃ x, xs[i]? = some x ∧ a = .d (.tuple [.int (i : Nat), x]) := by
  have hi : i < xs.length := by
    have := (List.getElem?_eq_some_iff.mp h).1
    simpa [places] using this
  refine ⟨xs[i], by simp [hi], ?_⟩
  simp [places, List.getElem?_range hi, hi] at h
  exact h.symm
theorem asc_snoc {ns : List Int} {q : Int} (h : ascI ns = true) (hq : ∀ p, ns.getLast? = some p → p < q) : ascI (ns ++ [q]) = true := by
  rw [ascI_iff] at h ⊢
  intro j x y hx hy
  by_cases h1 : j + 1 < ns.length
  · rw [List.getElem?_append_left (by omega)] at hx hy
    exact h j x y hx hy
  · by_cases h2 : j + 1 = ns.length
    · rw [List.getElem?_append_left (by omega)] at hx
      rw [List.getElem?_append_right (by omega), h2] at hy
      simp at hy
      subst hy
      refine hq x ?_
      rw [List.getLast?_eq_getElem?, ← h2]
      simpa using hx
    · have : (ns ++ [q])[j + 1]? = none := List.getElem?_eq_none (by simp; omega)
      rw [this] at hy
      cases hy
theorem ok__law_is_rising {f : Addr} {fd : FuncData} (Fn : Fun K "_law_is_rising" "_law_is_rising" s_law_is_rising f fd) (T : Bt mg) (h__law_is_key : Has P w K mg base "_law_is_key" 1 ["_law_thing"] S_is_key)
    (h__law_is_number : Has P w K mg base "_law_is_number" 1 ["_law_thing"] S_is_number) : FnOk P w K mg base CX0 2 f fd ["_law_thing", "_law_are_keys"] (toSp K 2 S_rising) := by
  refine def_ok Fn sc_law_is_rising (fun cdv A outer s H E hr => ?_)
  refine ⟨_, (pss_cons (ps_if (pt_not (pt_val (pe_callB (show CallR _ _ (rIsi K) from call_isi) (by rfl) T.isinstance (by decide +kernel) (pa_cons (pv 0) (pa_cons (pe_bltn (v := .ty "tuple") (by rfl) T.tuple (by decide +kernel) rfl) pa_nil))))) (pss_one (ps_ret pe_bl)) pss_nil)
      (pss_cons (ps_for PassesOwn.never rfl (pi_enumT (by rfl) T.enumerate (pa_cons (pv 0) pa_nil)) (pg_tup rfl (pgs_cons (pg_name (i := 2) sc_law_is_rising.nd rfl (by first | exact Or.inl rfl | exact Or.inr rfl)) (pgs_cons (pg_name (i := 3) sc_law_is_rising.nd rfl (by first | exact Or.inl rfl | exact Or.inr rfl)) pgs_nil))) (pss_cons (ps_if (pt_not (pt_ifE (pt_val (pv 1)) (pt_val (pe_call h__law_is_key.ok (hr.mono (by first | decide | (show _ ≤ 3 + _; omega))) (by rfl) h__law_is_key.mg h__law_is_key.kp h__law_is_key.b .nil pass0 (pa_cons (pv 3) pa_nil))) (pt_val (pe_call h__law_is_number.ok (hr.mono (by first | decide | (show _ ≤ 3 + _; omega))) (by rfl) h__law_is_number.mg h__law_is_number.kp h__law_is_number.b .nil pass0 (pa_cons (pv 3) pa_nil))))) (pss_one (ps_ret pe_bl)) pss_nil)
      (pss_one (ps_if (PW.pt (pw_and (pt_cmpR op_gt (pv 2) pe_int (nomark _)) (pw_and1 (pt_cmpR op_ge (pe_ix (show IxR _ (rIx K) from ix_seq) (pv 0) (pe_op op_sub (pv 2) pe_int) (fun _ _ => rfl)) (pv 3) (nomark _))))) (pss_one (ps_ret pe_bl)) pss_nil))))
      (pss_one (ps_ret pe_bl)))), ?_⟩
  rintro as M R hl ⟨x, b, rfl, hx, k⟩
  try simp only [cxK]
  show SS K _ [some (.d x), some (.d (.bool b)), none, none] M _
  refine ss_seq (ss_if ?_)
  repeat walk_at "v"
  refine ⟨fun h => ?_, fun h => ?_⟩
  · repeat walk_at "v"
    exact fin_b k (by cases x <;> simp_all [isTup, risD])
  obtain ⟨xs, rfl⟩ := tup_of (by simpa using h)
  refine ss_next ?_
  refine ss_seq (ss_for (ei_enumT ?_))
  repeat walk_at "v"
  refine ⟨fun i e M2 => M2 = M ∧ (∃ o1 o2, e = [some (.d (.tuple xs)), some (.d (.bool b)), o1, o2]) ∧ risD b (.tuple (xs.take i)) = true, ⟨rfl, ⟨none, none, rfl⟩, rfl⟩, fun _ _ _ _ => trivial, ?_, ?_⟩
  · rintro i a e M2 ha ⟨rfl, ⟨o1, o2, rfl⟩, hr⟩
    obtain ⟨x, hxi, rfl⟩ := place_at ha
    refine sg_tup rfl (sgs_cons (sg_name (sgs_cons (sg_name (sgs_nil ?_)))))
    show SS K _ [some (.d (.tuple xs)), some (.d (.bool b)), some (.d (.int (i : Nat))), some (.d x)] M2 _
    have tk : xs.take (i + 1) = xs.take i ++ [x] := by
      rw [List.take_add_one, hxi]; rfl
    have hr2 : (xs.take i).all (okItem b) = true ∧ ascI (intsOf (xs.take i)) = true := by simpa [risD] using hr
    refine ss_seq (ss_if ?_)
    repeat walk_at "v"
    cases b with
    | true =>
      refine tt ?_
      repeat walk_at "v"
      refine ⟨rfl, x, rfl, _, rfl, ?_⟩
      refine ⟨fun g => ?_, fun g => ?_⟩
      · repeat walk_at "v"
        have hf : okItem true x = false := by simpa [okItem] using g
        have : xs.all (okItem true) = false := Bool.eq_false_iff.mpr fun z => by
          rw [List.all_eq_true.mp z x (List.mem_of_getElem? hxi)] at hf; cases hf
        exact fin_b k (by rw [risD, this]; rfl)
      · have ht : okItem true x = true := by simpa [okItem] using g
        obtain ⟨q, rfl⟩ := okItem_int ht
        refine ss_next ?_
        refine ss_if (et_and ?_)
        repeat walk_at "v"
        by_cases hi : (0 : Int) < (i : Nat)
        · refine ifT hi ?_
          obtain ⟨j, rfl⟩ : ∃ j, i = j + 1 := ⟨i - 1, by omega⟩
          have hj : j < xs.length := by
            have := (List.getElem?_eq_some_iff.mp hxi).1
            omega
          obtain ⟨y, hy⟩ : ∃ y, xs[j]? = some y := ⟨xs[j], by simp [hj]⟩
          have hyk : okItem true y = true := List.all_eq_true.mp hr2.1 y (List.mem_of_getElem? (i := j) (by rw [List.getElem?_take, if_pos (by omega)]; exact hy))
          obtain ⟨p, rfl⟩ := okItem_int hyk
          repeat walk_at "v"
          refine rr_at (d := .int p) (by omega) (by rw [show (((j + 1 : Nat) : Int) - 1).toNat = j by omega]; exact hy) ?_
          repeat walk_at "v"
          refine ⟨fun g2 => ?_, fun g2 => ?_⟩
          · repeat walk_at "v"
            refine fin_b k ?_
            refine Bool.eq_false_iff.mpr fun z => ?_
            simp only [risD, Bool.and_eq_true] at z
            have hall := ints_of (xs := xs) fun x hx => okItem_int (List.all_eq_true.mp z.1 x hx)
            have h1 : (intsOf xs)[j]? = some p := by
              rw [hall, List.getElem?_map] at hy
              cases e : (intsOf xs)[j]? with
              | none => rw [e] at hy; cases hy
              | some v => rw [e] at hy; simpa using hy
            have h2 : (intsOf xs)[j + 1]? = some q := by
              rw [hall, List.getElem?_map] at hxi
              cases e : (intsOf xs)[j + 1]? with
              | none => rw [e] at hxi; cases hxi
              | some v => rw [e] at hxi; simpa using hxi
            have := ascI_iff.mp z.2 j p q h1 h2
            simp at g2
            omega
          · repeat walk_at "v"
            refine ⟨rfl, ⟨_, _, rfl⟩, ?_⟩
            simp at g2
            have e1 : intsOf (xs.take (j + 1)) = intsOf (xs.take j) ++ [p] := by
              rw [List.take_add_one, hy]; simp [intsOf]
            rw [tk]
            simp only [risD, List.all_append, hr2.1, List.all_cons, ht, List.all_nil, Bool.and_true, Bool.true_and]
            have e2 : intsOf (xs.take (j + 1) ++ [PyData.int q]) = intsOf (xs.take (j + 1)) ++ [q] := by simp [intsOf]
            rw [e2]
            refine asc_snoc hr2.2 fun p' hp' => ?_
            rw [e1] at hp'
            simp at hp'
            omega
        · refine ifF hi ?_
          repeat walk_at "v"
          refine ⟨rfl, ⟨_, _, rfl⟩, ?_⟩
          have hi0 : i = 0 := by omega
          subst hi0
          rw [tk]
          simp [risD, ht, intsOf, ascI]
    | false =>
      refine ff ?_
      repeat walk_at "v"
      refine ⟨rfl, x, rfl, _, rfl, ?_⟩
      refine ⟨fun g => ?_, fun g => ?_⟩
      · repeat walk_at "v"
        have hf : okItem false x = false := by simpa [okItem] using g
        have : xs.all (okItem false) = false := Bool.eq_false_iff.mpr fun z => by
          rw [List.all_eq_true.mp z x (List.mem_of_getElem? hxi)] at hf; cases hf
        exact fin_b k (by rw [risD, this]; rfl)
      · have ht : okItem false x = true := by simpa [okItem] using g
        obtain ⟨q, rfl⟩ := okItem_int ht
        refine ss_next ?_
        refine ss_if (et_and ?_)
        repeat walk_at "v"
        by_cases hi : (0 : Int) < (i : Nat)
        · refine ifT hi ?_
          obtain ⟨j, rfl⟩ : ∃ j, i = j + 1 := ⟨i - 1, by omega⟩
          have hj : j < xs.length := by
            have := (List.getElem?_eq_some_iff.mp hxi).1
            omega
          obtain ⟨y, hy⟩ : ∃ y, xs[j]? = some y := ⟨xs[j], by simp [hj]⟩
          have hyk : okItem false y = true := List.all_eq_true.mp hr2.1 y (List.mem_of_getElem? (i := j) (by rw [List.getElem?_take, if_pos (by omega)]; exact hy))
          obtain ⟨p, rfl⟩ := okItem_int hyk
          repeat walk_at "v"
          refine rr_at (d := .int p) (by omega) (by rw [show (((j + 1 : Nat) : Int) - 1).toNat = j by omega]; exact hy) ?_
          repeat walk_at "v"
          refine ⟨fun g2 => ?_, fun g2 => ?_⟩
          · repeat walk_at "v"
            refine fin_b k ?_
            refine Bool.eq_false_iff.mpr fun z => ?_
            simp only [risD, Bool.and_eq_true] at z
            have hall := ints_of (xs := xs) fun x hx => okItem_int (List.all_eq_true.mp z.1 x hx)
            have h1 : (intsOf xs)[j]? = some p := by
              rw [hall, List.getElem?_map] at hy
              cases e : (intsOf xs)[j]? with
              | none => rw [e] at hy; cases hy
              | some v => rw [e] at hy; simpa using hy
            have h2 : (intsOf xs)[j + 1]? = some q := by
              rw [hall, List.getElem?_map] at hxi
              cases e : (intsOf xs)[j + 1]? with
              | none => rw [e] at hxi; cases hxi
              | some v => rw [e] at hxi; simpa using hxi
            have := ascI_iff.mp z.2 j p q h1 h2
            simp at g2
            omega
          · repeat walk_at "v"
            refine ⟨rfl, ⟨_, _, rfl⟩, ?_⟩
            simp at g2
            have e1 : intsOf (xs.take (j + 1)) = intsOf (xs.take j) ++ [p] := by
              rw [List.take_add_one, hy]; simp [intsOf]
            rw [tk]
            simp only [risD, List.all_append, hr2.1, List.all_cons, ht, List.all_nil, Bool.and_true, Bool.true_and]
            have e2 : intsOf (xs.take (j + 1) ++ [PyData.int q]) = intsOf (xs.take (j + 1)) ++ [q] := by simp [intsOf]
            rw [e2]
            refine asc_snoc hr2.2 fun p' hp' => ?_
            rw [e1] at hp'
            simp at hp'
            omega
        · refine ifF hi ?_
          repeat walk_at "v"
          refine ⟨rfl, ⟨_, _, rfl⟩, ?_⟩
          have hi0 : i = 0 := by omega
          subst hi0
          rw [tk]
          simp [risD, ht, intsOf, ascI]
  · rintro e M2 ⟨rfl, ⟨o1, o2, rfl⟩, hr⟩
    repeat walk_at "v"
    refine fin_b k ?_
    have hl : ((places xs).map AV.d).length = xs.length := by simp [places]
    rw [hl, List.take_length] at hr
    exact hr
end K49

set_option Elab.async false
set_option linter.all false
set_option maxRecDepth 100000
set_option maxHeartbeats 4000000
namespace K49
open PySem PySem.Spec PyProof.Rows L2 DL
variable {P : Program} {w : World} {K : PySem.W.Frag} {mg : Str → Option Value} {base : Heap}
local macro_rules | `(tactic| walk_at "v") => `(tactic| first
  | (with_reducible refine ssq_asg ?_) | (with_reducible refine ssq_drop ?_) | (with_reducible refine ssq_dput ?_) | (with_reducible refine ssq_par ?_) | (with_reducible refine ss_asg ?_) | (with_reducible refine sg_name ?_) | (with_reducible refine ss_ret ?_) | (with_reducible refine ss_next ?_) | (with_reducible refine ss_dput ?_) | (with_reducible refine ss_drop ?_)
  | (with_reducible refine et_test ?_) | (with_reducible refine et_B ?_) | (with_reducible refine et_not ?_) | (with_reducible refine et_and ?_) | (with_reducible refine et_or ?_) | (with_reducible refine et_ifE ?_)
  | (with_reducible refine ee_andV ?_) | (with_reducible refine ee_orV ?_) | (with_reducible refine ee_notV ?_) | (with_reducible refine ee_chain ?_)
  | (with_reducible refine ee_op ?_) | ((with_reducible refine ee_var (a := ?a1) ?h1 ?_); (case h1 => exact rfl)) | (with_reducible refine ee_int ?_) | (with_reducible refine ee_str ?_) | (with_reducible refine ee_bl ?_) | (with_reducible refine ee_non ?_) | (with_reducible refine ee_ty ?_)
  | (with_reducible refine ee_dget ?_) | (with_reducible refine ee_cb ?_) | (with_reducible refine ea_cons ?_) | (with_reducible refine ea_nil ?_)
  | ((with_reducible refine ee_call ?_)) | (with_reducible refine ee_revT ?_) | (with_reducible refine ee_sl ?_) | (with_reducible refine eo_none ?_) | (with_reducible refine eo_some ?_) | (with_reducible refine rs_tup ?_)
  | (with_reducible refine rr_add ?_) | (with_reducible refine rr_sub ?_) | (with_reducible refine rr_lt ?_) | (with_reducible refine rr_le ?_) | (with_reducible refine rr_gt ?_) | (with_reducible refine rr_ge ?_) | (with_reducible refine rr_eqI ?_) | (with_reducible refine rr_neI ?_) | (with_reducible refine rr_eqStr ?_) | (with_reducible refine rr_neStr ?_)
  | (with_reducible refine rr_eqSS ?_) | (with_reducible refine rr_eqS0T ?_)
  | ((with_reducible refine rr_mod ?h1 ?_); (case h1 => omega)) | ((with_reducible refine rr_pow ?h1 ?_); (case h1 => (refine ⟨by omega, by omega, by omega⟩)))
  | ((with_reducible refine rr_mul ?h1 ?_); (case h1 => (first | exact .inl ⟨by omega, by omega⟩ | exact .inr ⟨by omega, by omega⟩)))
  | ((with_reducible refine rr_fdivW ?h1 ?_); (case h1 => exact cdivW (by omega) (by omega)))
  | (with_reducible refine rc_abs ?_) | (with_reducible refine rc_int_bl ?_) | (with_reducible refine ru_neg ?_) | (with_reducible refine ee_un ?_) | (with_reducible refine ee_if ?_) | (with_reducible refine rc_ord ?_) | (with_reducible refine rc_len_tup ?_)
  | (with_reducible refine rc_isi (kit_tup _) (.d _) ?_) | (with_reducible refine rc_isi (kit_str _) (.d _) ?_) | (with_reducible refine rc_isi (kit_int _) (.d _) ?_) | (with_reducible refine rc_isi (kit_bool _) (.d _) ?_) | (with_reducible refine rc_isi (kit_list _) (.d _) ?_)
  | (with_reducible refine tt ?_) | (with_reducible refine ff ?_) | (with_reducible refine ttN ?_) | (with_reducible refine ffN ?_)
  | (with_reducible refine et_yes ?_) | (with_reducible refine rr_isN ?_) | (with_reducible refine rr_notN ?_) | ((with_reducible refine rr_at (d := ?d1) ?h0 ?h1 ?_); (case h0 => decide); (case h1 => exact rfl)) | ((with_reducible refine rr_atL (d := ?d1) ?h0 ?h1 ?_); (case h0 => decide); (case h1 => exact rfl))
  | (with_reducible refine ee_tup ?_) | (with_reducible refine ee_lst ?_)
  | (with_reducible refine ⟨_, rfl, ?_⟩)
  | (with_reducible refine row0 ?_) | (with_reducible refine row1 ?_) | (with_reducible refine row2 ?_) | (with_reducible refine row3 ?_) | (with_reducible refine row4 ?_) | (with_reducible refine row5 ?_) | (with_reducible refine row6 ?_) | (with_reducible refine row7 ?_) | (with_reducible refine row8 ?_) | (with_reducible refine row9 ?_) | (with_reducible refine row10 ?_) | (with_reducible refine row11 ?_) | (with_reducible refine row12 ?_) | (with_reducible refine row13 ?_) | (with_reducible refine row14 ?_) | (with_reducible refine row15 ?_) | (with_reducible refine row16 ?_) | (with_reducible refine row17 ?_) | (with_reducible refine row18 ?_) | (with_reducible refine row19 ?_) | (with_reducible refine row20 ?_))
def allSigns : Str := " !\"#$&'()*+,-./0123456789:;<=>?@ABCDEFGHIJKLMNOPQRSTUVWXYZ[\\]^_`abcdefghijklmnopqrstuvwxyz{|}~"
theorem signs_ok (c : Nat) : decide (c ∈ allSigns.cps.toList) = okSign c := by
  by_cases h : c < 128
  · have all : ∀ c, c < 128 → decide (c ∈ allSigns.cps.toList) = okSign c := by decide +kernel
    exact all c h
  · have h1 : okSign c = false := by
      unfold okSign
      simp
      omega
    have big : ∀ c ∈ allSigns.cps.toList, c < 128 := by decide +kernel
    rw [h1]
    exact decide_eq_false fun z => h (big c z)
theorem filt_nil (l : List Nat) : (l.filterMap fun c => if okSign c = true then none else some (PyData.str ⟨#[c]⟩)).isEmpty = l.all okSign := by
  induction l with
  | nil => rfl
  | cons c l ih =>
    rw [List.filterMap_cons, List.all_cons]
    cases e : okSign c with
    | true => simpa using ih
    | false => simp
-- slots: 0:_law_thing 1:_law_least 2:_law_most 3:_law_signs 4:_law_sign
abbrev s_law_is_text : Stmt := top 30
theorem sc_law_is_text : FnScope ["_law_thing", "_law_least", "_law_most", "_law_signs", "_law_sign"] ["_law_thing", "_law_least", "_law_most"] (defScope s_law_is_text) := ⟨rfl, rfl, rfl, by decide +kernel, rfl, by decide +kernel, by decide +kernel⟩
theorem ok__law_is_text {f : Addr} {fd : FuncData} (Fn : Fun K "_law_is_text" "_law_is_text" s_law_is_text f fd) (T : Bt mg) : FnOk P w K mg base CX0 1 f fd ["_law_thing", "_law_least", "_law_most"] (toSp K 3 S_is_text) := by
  refine def_ok Fn sc_law_is_text (fun cdv A outer s H E hr => ?_)
  refine ⟨_, (pss_cons (ps_set (i := 3) sc_law_is_text.nd rfl (by first | exact Or.inl rfl | exact Or.inr rfl) pe_str)
      (pss_cons (ps_if (PW.pt (pw_or (pt_not (pt_val (pe_callB (show CallR _ _ (rIsi K) from call_isi) (by rfl) T.isinstance (by decide +kernel) (pa_cons (pv 0) (pa_cons (pe_bltn (v := .ty "str") (by rfl) T.str (by decide +kernel) rfl) pa_nil))))) (pw_or1 (pt_not (pt_chain op_le op_le (pv 1) (pe_callB (show CallR _ _ (fun xs H Q => ∃ x n, xs = [x] ∧ LenV K x H n ∧ Q (.int n) H) from call_len) (by rfl) T.len (by decide +kernel) (pa_cons (pv 0) pa_nil)) (pv 2)))))) (pss_one (ps_ret pe_bl)) pss_nil)
      (pss_one (ps_ret (pe_cmpR (show OpR _ _ (rEqS K) from op_eqS hr.units) (pe_lc (own := [("_law_sign", 4)]) (g := (gName 4)) (by rfl) sc_law_is_text.nd (pi_str (pv 0)) (blkOk_by (own := [("_law_sign", 4)]) (N := ["_law_thing", "_law_least", "_law_most", "_law_signs", "_law_sign"]) (sc := defScope s_law_is_text) (by decide +kernel)) (fun _ _ _ _ _ => (pg_name (i := 4) sc_law_is_text.nd rfl (by first | exact Or.inl rfl | exact Or.inr rfl))) (fun _ _ _ _ _ => (pts_one (pt_cmpR op_notIn_sign (pv 4) (pv 3) (by rfl)))) (fun _ _ _ _ _ => (pv 4))) (pe_lst pa_nil) (nomark _)))))), ?_⟩
  rintro as M R hl ⟨x, lo, hi, rfl, hx, k⟩
  try simp only [cxK]
  show SS K _ [some (.d x), some (.d (.int lo)), some (.d (.int hi)), none, none] M _
  repeat walk_at "v"
  refine ss_seq (ss_if ?_)
  repeat walk_at "v"
  refine ⟨fun h => ?_, fun h => ?_⟩
  · repeat walk_at "v"
    exact fin_b k (by cases x <;> simp_all [isStr, okText])
  obtain ⟨z, rfl⟩ : ∃ z, x = .str z := by
    cases x <;> simp [isStr] at h
    exact ⟨_, rfl⟩
  repeat walk_at "v"
  refine rc_len_str (hx z rfl) ?_
  repeat walk_at "v"
  refine ⟨fun h1 => ?_, fun h1 => ?_⟩
  · repeat walk_at "v"
    refine ⟨fun h2 => ?_, fun h2 => ?_⟩
    · repeat walk_at "v"
      refine fin_b k ?_
      simp only [okText, h1]
      simp at h2
      simp [show ¬ ((z.length : Int) ≤ hi) by omega]
    · repeat walk_at "v"
      refine ee_lc (only_name (by simp)) (ei_str ?_)
      repeat walk_at "v"
      refine lc_map (fun x => if signD x then none else some x) trivial ?_ ?_ ?_
      · intro x hx' T' acc ty tn
        obtain ⟨c, hc, rfl⟩ := mem_signs hx'
        repeat walk_at "v"
        refine rr_nsign ?_
        repeat walk_at "v"
        rw [show (Str.ofString " !\"#$&'()*+,-./0123456789:;<=>?@ABCDEFGHIJKLMNOPQRSTUVWXYZ[\\]^_`abcdefghijklmnopqrstuvwxyz{|}~") = allSigns from rfl, signs_ok]
        have e : signD (PyData.str ⟨#[c]⟩) = okSign c := rfl
        refine ⟨fun g => ?_, fun g => ?_⟩
        · repeat walk_at "v"
          exact ty _ (by rw [e]; simp at g; simp [g])
        · exact tn (by rw [e]; simp at g; simp [g])
      · repeat walk_at "v"
        refine rr_eqS0L (.d _) (.d _) ?_
        refine fin_b k ?_
        simp only [okText, h1]
        simp at h2
        simp only [h2, decide_true, Bool.true_and]
        rw [DL.signs, List.filterMap_map]
        exact (filt_nil _).symm
      · have : z.cps.size ≤ 100000 := hx z rfl
        simpa [DL.signs] using this
  · repeat walk_at "v"
    exact fin_b k (by simp [okText, h1])
-- slots: 0:_law_thing
abbrev s_law_is_held : Stmt := top 31
theorem sc_law_is_held : FnScope ["_law_thing"] ["_law_thing"] (defScope s_law_is_held) := ⟨rfl, rfl, rfl, by decide +kernel, rfl, by decide +kernel, by decide +kernel⟩
theorem ok__law_is_held {f : Addr} {fd : FuncData} (Fn : Fun K "_law_is_held" "_law_is_held" s_law_is_held f fd) (T : Bt mg) (h__law_is_text : Has P w K mg base "_law_is_text" 1 ["_law_thing", "_law_least", "_law_most"] S_is_text)
    (h__law_is_number : Has P w K mg base "_law_is_number" 1 ["_law_thing"] S_is_number) : FnOk P w K mg base CX0 2 f fd ["_law_thing"] (toSp K 1 S_is_held) := by
  refine def_ok Fn sc_law_is_held (fun cdv A outer s H E hr => ?_)
  refine ⟨_, (pss_cons (ps_if (pt_not (pt_val (pe_callB (show CallR _ _ (rIsi K) from call_isi) (by rfl) T.isinstance (by decide +kernel) (pa_cons (pv 0) (pa_cons (pe_bltn (v := .ty "tuple") (by rfl) T.tuple (by decide +kernel) rfl) pa_nil))))) (pss_one (ps_ret (pe_call h__law_is_text.ok (hr.mono (by first | decide | (show _ ≤ 3 + _; omega))) (by rfl) h__law_is_text.mg h__law_is_text.kp h__law_is_text.b .nil pass0 (pa_cons (pv 0) (pa_cons pe_int (pa_cons pe_int pa_nil)))))) pss_nil)
      (pss_cons (ps_if (PW.pt (pw_or (pt_cmpR op_ne (pe_callB (show CallR _ _ (fun xs H Q => ∃ x n, xs = [x] ∧ LenV K x H n ∧ Q (.int n) H) from call_len) (by rfl) T.len (by decide +kernel) (pa_cons (pv 0) pa_nil)) pe_int (nomark _)) (pw_or (pt_not (pt_val (pe_callB (show CallR _ _ (rIsi K) from call_isi) (by rfl) T.isinstance (by decide +kernel) (pa_cons (pe_ix (show IxR _ (rIx K) from ix_seq) (pv 0) pe_int (fun _ _ => rfl)) (pa_cons (pe_bltn (v := .ty "str") (by rfl) T.str (by decide +kernel) rfl) pa_nil))))) (pw_or1 (pt_cmpR op_ne (pe_ix (show IxR _ (rIx K) from ix_seq) (pv 0) pe_int (fun _ _ => rfl)) pe_str (nomark _)))))) (pss_one (ps_ret pe_bl)) pss_nil)
      (pss_one (ps_ret (pe_and (pe_call h__law_is_number.ok (hr.mono (by first | decide | (show _ ≤ 3 + _; omega))) (by rfl) h__law_is_number.mg h__law_is_number.kp h__law_is_number.b .nil pass0 (pa_cons (pe_ix (show IxR _ (rIx K) from ix_seq) (pv 0) pe_int (fun _ _ => rfl)) pa_nil)) (pe_and (pe_call h__law_is_number.ok (hr.mono (by first | decide | (show _ ≤ 3 + _; omega))) (by rfl) h__law_is_number.mg h__law_is_number.kp h__law_is_number.b .nil pass0 (pa_cons (pe_ix (show IxR _ (rIx K) from ix_seq) (pv 0) pe_int (fun _ _ => rfl)) pa_nil)) (pe_one (pe_chain op_le op_le pe_int (pe_ix (show IxR _ (rIx K) from ix_seq) (pv 0) pe_int (fun _ _ => rfl)) pe_int)))))))), ?_⟩
  rintro as M R hl ⟨x, rfl, hx, hx2, k⟩
  try simp only [cxK]
  show SS K _ [some (.d x)] M _
  refine ss_seq (ss_if ?_)
  repeat walk_at "v"
  refine ⟨fun h => ?_, fun h => ?_⟩
  · repeat walk_at "v"
    refine ⟨rfl, x, 0, 8, rfl, hx, fin_b k ?_⟩
    cases x <;> simp_all [isTup, heldD, okText]
  obtain ⟨xs, rfl⟩ := tup_of (by simpa using h)
  repeat walk_at "v"
  refine ss_seq (ss_if ?_)
  repeat walk_at "v"
  refine ⟨fun h2 => ?_, fun h2 => ?_⟩
  · repeat walk_at "v"
    refine fin_b k ?_
    match xs, h2 with
    | [], _ => rfl
    | [_], _ => rfl
    | [_, _], _ => rfl
    | _ :: _ :: _ :: _ :: _, _ => rfl
    | [_, _, _], h2 => simp at h2
  obtain ⟨a, p, l, rfl⟩ : ∃ a p l, xs = [a, p, l] := by
    match xs, h2 with
    | [a, p, l], _ => exact ⟨a, p, l, rfl⟩
    | [], h2 => simp at h2
    | [_], h2 => simp at h2
    | [_, _], h2 => simp at h2
    | _ :: _ :: _ :: _ :: r, h2 =>
      simp at h2
      omega
  repeat walk_at "v"
  refine ⟨fun h3 => ?_, fun h3 => ?_⟩
  · repeat walk_at "v"
    exact fin_b k (by cases a <;> simp_all [isStr, heldD, isThe])
  obtain ⟨n, rfl⟩ : ∃ n, a = .str n := by
    cases a <;> simp [isStr] at h3
    exact ⟨_, rfl⟩
  repeat walk_at "v"
  refine ⟨fun h4 => ?_, fun h4 => ?_⟩
  · repeat walk_at "v"
    refine fin_b k ?_
    simp at h4
    simp [heldD, isThe, h4]
  have hn : isThe "at" (.str n) = true := by
    simp at h4
    simp [isThe, h4]
  repeat walk_at "v"
  refine ⟨rfl, p, rfl, _, rfl, fun g1 => ?_, fun g1 => ?_⟩
  · repeat walk_at "v"
    refine ⟨rfl, l, rfl, _, rfl, fun g2 => ?_, fun g2 => ?_⟩
    · obtain ⟨i, rfl⟩ := isNum_int g2
      repeat walk_at "v"
      refine ⟨fun g3 => ?_, fun g3 => ?_⟩
      · repeat walk_at "v"
        refine fin_b k ?_
        simp [isNum] at g2 g3
        simp only [heldD, hn, g1, below, Bool.true_and]
        by_cases z : i ≤ 40
        · simp [z, g2]; omega
        · simp [z]; omega
      · refine fin_b k ?_
        simp [isNum] at g2 g3
        simp only [heldD, hn, g1, below, Bool.true_and]
        simp [show ¬ (8 < i) by omega]
    · refine fin_b k ?_
      cases l <;> first | (simp [heldD, below]; done) | (simp [isNum] at g2; simp [heldD, below]; intros; omega)
  · exact fin_b k (by simp [heldD, g1])
def okRec : PyData → Bool
  | .tuple [_, h] => heldD h
  | _ => false
theorem okRec_two {x : PyData} (h : okRec x = true) : ∃ a b, x = .tuple [a, b] ∧ heldD b = true := by
  match x, h with
  | .tuple [a, b], h => exact ⟨a, b, rfl, h⟩
theorem recs_split {xs : List PyData} (h : ∀ x ∈ xs, okRec x = true) : xs.all recD = (keysOf xs).all isKey := by
  induction xs with
  | nil => rfl
  | cons x xs ih =>
    obtain ⟨a, b, rfl, hb⟩ := okRec_two (h x List.mem_cons_self)
    have := ih fun y hy => h y (List.mem_cons_of_mem _ hy)
    simp only [List.all_cons, recD, hb, Bool.and_true, this, keysOf, List.filterMap_cons]
-- slots: 0:_law_thing 1:_law_record
abbrev s_law_are_records : Stmt := top 32
theorem sc_law_are_records : FnScope ["_law_thing", "_law_record"] ["_law_thing"] (defScope s_law_are_records) := ⟨rfl, rfl, rfl, by decide +kernel, rfl, by decide +kernel, by decide +kernel⟩
theorem ok__law_are_records {f : Addr} {fd : FuncData} (Fn : Fun K "_law_are_records" "_law_are_records" s_law_are_records f fd) (T : Bt mg) (h__law_is_held : Has P w K mg base "_law_is_held" 2 ["_law_thing"] S_is_held)
    (h__law_is_rising : Has P w K mg base "_law_is_rising" 2 ["_law_thing", "_law_are_keys"] S_rising) : FnOk P w K mg base CX0 3 f fd ["_law_thing"] (toSp K 1 S_are_held_records) := by
  refine def_ok Fn sc_law_are_records (fun cdv A outer s H E hr => ?_)
  refine ⟨_, (pss_cons (ps_if (pt_not (pt_val (pe_callB (show CallR _ _ (rIsi K) from call_isi) (by rfl) T.isinstance (by decide +kernel) (pa_cons (pv 0) (pa_cons (pe_bltn (v := .ty "tuple") (by rfl) T.tuple (by decide +kernel) rfl) pa_nil))))) (pss_one (ps_ret pe_bl)) pss_nil)
      (pss_cons (ps_for PassesOwn.never rfl (pi_tup (pv 0)) (pg_name (i := 1) sc_law_are_records.nd rfl (by first | exact Or.inl rfl | exact Or.inr rfl)) (pss_one (ps_if (PW.pt (pw_or (pt_not (pt_val (pe_callB (show CallR _ _ (rIsi K) from call_isi) (by rfl) T.isinstance (by decide +kernel) (pa_cons (pv 1) (pa_cons (pe_bltn (v := .ty "tuple") (by rfl) T.tuple (by decide +kernel) rfl) pa_nil))))) (pw_or (pt_cmpR op_ne (pe_callB (show CallR _ _ (fun xs H Q => ∃ x n, xs = [x] ∧ LenV K x H n ∧ Q (.int n) H) from call_len) (by rfl) T.len (by decide +kernel) (pa_cons (pv 1) pa_nil)) pe_int (nomark _)) (pw_or1 (pt_not (pt_val (pe_call h__law_is_held.ok (hr.mono (by first | decide | (show _ ≤ 3 + _; omega))) (by rfl) h__law_is_held.mg h__law_is_held.kp h__law_is_held.b .nil pass0 (pa_cons (pe_ix (show IxR _ (rIx K) from ix_seq) (pv 1) pe_int (fun _ _ => rfl)) pa_nil)))))))) (pss_one (ps_ret pe_bl)) pss_nil)))
      (pss_one (ps_ret (pe_call h__law_is_rising.ok (hr.mono (by first | decide | (show _ ≤ 3 + _; omega))) (by rfl) h__law_is_rising.mg h__law_is_rising.kp h__law_is_rising.b .nil pass0 (pa_cons (pe_tupleOf (by rfl) T.tuple (pe_lc (own := [("_law_record", 1)]) (g := (gName 1)) (tt := tYes) (by rfl) sc_law_are_records.nd (pi_tup (pv 0)) (blkOk_by (own := [("_law_record", 1)]) (N := ["_law_thing", "_law_record"]) (sc := defScope s_law_are_records) (by decide +kernel)) (fun _ _ _ _ _ => (pg_name (i := 1) sc_law_are_records.nd rfl (by first | exact Or.inl rfl | exact Or.inr rfl))) (fun _ _ _ _ _ => pts_nil) (fun _ _ _ _ _ => (pe_ix (show IxR _ (rIx K) from ix_seq) (pv 1) pe_int (fun _ _ => rfl))))) (pa_cons pe_bl pa_nil))))))), ?_⟩
  rintro as M R hl ⟨x, rfl, hx, k⟩
  try simp only [cxK]
  show SS K _ [some (.d x), none] M _
  refine ss_seq (ss_if ?_)
  repeat walk_at "v"
  refine ⟨fun h => ?_, fun h => ?_⟩
  · repeat walk_at "v"
    exact fin_b k (by cases x <;> simp_all [isTup, recsD])
  obtain ⟨xs, rfl⟩ := tup_of (by simpa using h)
  obtain ⟨hl1, hs⟩ := hx xs rfl
  refine ss_next ?_
  refine ss_seq (ss_for (ei_tup ?_))
  repeat walk_at "v"
  refine ⟨fun i e M2 => M2 = M ∧ (∃ o, e = [some (.d (.tuple xs)), o]) ∧ ∀ x ∈ xs.take i, okRec x = true, ⟨rfl, ⟨none, rfl⟩, fun x hx => by simp at hx⟩, fun _ _ _ _ => trivial, ?_, ?_⟩
  · rintro i a e M2 ha ⟨rfl, ⟨o, rfl⟩, hr⟩
    obtain ⟨x, hxi, rfl⟩ : ∃ x, xs[i]? = some x ∧ a = .d x := by
      rw [List.getElem?_map] at ha
      cases e : xs[i]? with
      | none => rw [e] at ha; cases ha
      | some x => rw [e] at ha; cases ha; exact ⟨x, rfl, rfl⟩
    have hmem := List.mem_of_getElem? hxi
    have bad : okRec x = false → recsD (.tuple xs) = false := fun hf => by
      have : xs.all recD = false := Bool.eq_false_iff.mpr fun z => by
        have hz := List.all_eq_true.mp z x hmem
        match x, hz, hf with
        | .tuple [a, b], hz, hf =>
          simp [recD] at hz
          rw [okRec, hz.2] at hf
          cases hf
      rw [recsD, this]
      rfl
    refine sg_name ?_
    show SS K _ [some (.d (.tuple xs)), some (.d x)] M2 _
    refine ss_if ?_
    repeat walk_at "v"
    refine ⟨fun h1 => ?_, fun h1 => ?_⟩
    · repeat walk_at "v"
      exact fin_b k (bad (by cases x <;> simp_all [isTup, okRec]))
    obtain ⟨ys, rfl⟩ := tup_of (by simpa using h1)
    repeat walk_at "v"
    refine ⟨fun h2 => ?_, fun h2 => ?_⟩
    · repeat walk_at "v"
      refine fin_b k (bad ?_)
      match ys, h2 with
      | [], _ => rfl
      | [_], _ => rfl
      | _ :: _ :: _ :: _, _ => rfl
      | [_, _], h2 => simp at h2
    obtain ⟨a, b, rfl⟩ := two_of (by simpa using h2)
    repeat walk_at "v"
    have sm := hs a b hmem
    refine ⟨rfl, b, rfl, sm.1, sm.2, _, rfl, ?_⟩
    refine ⟨fun h3 => ?_, fun h3 => ?_⟩
    · repeat walk_at "v"
      exact fin_b k (bad (by simpa [okRec] using h3))
    · repeat walk_at "v"
      refine ⟨rfl, ⟨_, rfl⟩, fun y hy => ?_⟩
      rw [List.take_add_one, hxi] at hy
      rcases List.mem_append.mp hy with hy | hy
      · exact hr y hy
      · have : y = .tuple [a, b] := by simpa using hy
        rw [this]
        simpa [okRec] using h3
  · rintro e M2 ⟨rfl, ⟨o, rfl⟩, hr⟩
    have hall : ∀ x ∈ xs, okRec x = true := by
      rw [List.length_map, List.take_length] at hr
      exact hr
    repeat walk_at "v"
    refine ee_tupleOf ?_
    refine ee_lc (only_name (by simp)) (ei_tup ?_)
    repeat walk_at "v"
    refine lc_map (fun x => match x with | .tuple [a, _] => some a | _ => none) trivial (fun x hx' T' acc ty _ => ?_) ?_ (Nat.le_trans hl1 (by decide))
    · obtain ⟨a, b, rfl, hb⟩ := okRec_two (hall x hx')
      repeat walk_at "v"
      exact ty _ rfl
    refine .inl ⟨keysOf xs, .d _, ?_⟩
    repeat walk_at "v"
    have hk1 : (keysOf xs).length ≤ 10000 := Nat.le_trans (List.length_filterMap_le _ _) hl1
    exact ⟨rfl, .tuple (keysOf xs), true, rfl, fun zs e => by cases e; exact hk1, fin_b k (by simp only [risD, recsD, recs_split hall]; rfl)⟩
-- slots: 0:_law_separators 1:_law_thing 2:_law_page_here
abbrev s_law_are_lower : Stmt := top 33
theorem sc_law_are_lower : FnScope ["_law_separators", "_law_thing", "_law_page_here"] ["_law_separators", "_law_thing"] (defScope s_law_are_lower) := ⟨rfl, rfl, rfl, by decide +kernel, rfl, by decide +kernel, by decide +kernel⟩
def S_are_lower : SpD := fun as M R => ∃ xs y, as = [.d (.tuple xs), .d y] ∧ (∀ ys, y = .tuple ys → ys.length ≤ 10000) ∧ R (.d (.bool (areNums y && decide (lenD y = (xs.length : Int) + 1)))) M
theorem num_nil (l : List PyData) : (l.filterMap fun x => if isNum x = true then none else some x).isEmpty = l.all isNum := by
  induction l with
  | nil => rfl
  | cons c l ih =>
    rw [List.filterMap_cons, List.all_cons]
    cases e : isNum c with
    | true => simpa using ih
    | false => simp
theorem ok__law_are_lower {f : Addr} {fd : FuncData} (Fn : Fun K "_law_are_lower" "_law_are_lower" s_law_are_lower f fd) (T : Bt mg) (h__law_is_number : Has P w K mg base "_law_is_number" 1 ["_law_thing"] S_is_number) :
    FnOk P w K mg base CX0 2 f fd ["_law_separators", "_law_thing"] (toSp K 2 S_are_lower) := by
  refine def_ok Fn sc_law_are_lower (fun cdv A outer s H E hr => ?_)
  refine ⟨_, (pss_cons (ps_if (PW.pt (pw_or (pt_not (pt_val (pe_callB (show CallR _ _ (rIsi K) from call_isi) (by rfl) T.isinstance (by decide +kernel) (pa_cons (pv 1) (pa_cons (pe_bltn (v := .ty "tuple") (by rfl) T.tuple (by decide +kernel) rfl) pa_nil))))) (pw_or1 (pt_cmpR op_ne (pe_callB (show CallR _ _ (fun xs H Q => ∃ x n, xs = [x] ∧ LenV K x H n ∧ Q (.int n) H) from call_len) (by rfl) T.len (by decide +kernel) (pa_cons (pv 1) pa_nil)) (pe_op op_add (pe_callB (show CallR _ _ (fun xs H Q => ∃ x n, xs = [x] ∧ LenV K x H n ∧ Q (.int n) H) from call_len) (by rfl) T.len (by decide +kernel) (pa_cons (pv 0) pa_nil)) pe_int) (nomark _))))) (pss_one (ps_ret pe_bl)) pss_nil)
      (pss_one (ps_ret (pe_cmpR (show OpR _ _ (rEqS K) from op_eqS hr.units) (pe_lc (own := [("_law_page_here", 2)]) (g := (gName 2)) (by rfl) sc_law_are_lower.nd (pi_tup (pv 1)) (blkOk_by (own := [("_law_page_here", 2)]) (N := ["_law_separators", "_law_thing", "_law_page_here"]) (sc := defScope s_law_are_lower) (by decide +kernel)) (fun _ _ _ _ _ => (pg_name (i := 2) sc_law_are_lower.nd rfl (by first | exact Or.inl rfl | exact Or.inr rfl))) (fun _ _ _ _ _ => (pts_one (pt_not (pt_val (pe_call h__law_is_number.ok (hr.mono (by first | decide | (show _ ≤ 3 + _; omega))) (by rfl) h__law_is_number.mg h__law_is_number.kp h__law_is_number.b .nil pass0 (pa_cons (pv 2) pa_nil)))))) (fun _ _ _ _ _ => (pv 2))) (pe_lst pa_nil) (nomark _))))), ?_⟩
  rintro as M R hl ⟨xs, y, rfl, hy, k⟩
  try simp only [cxK]
  show SS K _ [some (.d (.tuple xs)), some (.d y), none] M _
  refine ss_seq (ss_if ?_)
  repeat walk_at "v"
  refine ⟨fun h => ?_, fun h => ?_⟩
  · repeat walk_at "v"
    exact fin_b k (by cases y <;> simp_all [isTup, areNums])
  obtain ⟨ys, rfl⟩ := tup_of (by simpa using h)
  repeat walk_at "v"
  refine ⟨fun h2 => ?_, fun h2 => ?_⟩
  · repeat walk_at "v"
    refine fin_b k ?_
    simp at h2
    simp [lenD, h2]
  repeat walk_at "v"
  refine ee_lc (only_name (by simp)) (ei_tup ?_)
  repeat walk_at "v"
  refine lc_map (fun x => if isNum x = true then none else some x) trivial (fun x hx' T' acc ty tn => ?_) ?_ (Nat.le_trans (hy ys rfl) (by decide))
  · repeat walk_at "v"
    refine ⟨rfl, x, rfl, _, rfl, fun g => ?_, fun g => ?_⟩
    · repeat walk_at "v"
      simp at g
      exact ty _ (by simp [g])
    · simp at g
      exact tn (by simp [g])
  repeat walk_at "v"
  refine rr_eqS0L (.d _) (.d _) ?_
  refine fin_b k ?_
  rw [num_nil]
  simp at h2
  simp [areNums, lenD, h2]
end K49

set_option Elab.async false
set_option linter.all false
set_option maxRecDepth 100000
set_option maxHeartbeats 4000000
namespace K49
open PySem PySem.Spec PyProof.Rows L2 DL
variable {P : Program} {w : World} {K : PySem.W.Frag} {mg : Str → Option Value} {base : Heap}
local macro_rules | `(tactic| walk_at "v") => `(tactic| first
  | (with_reducible refine ssq_asg ?_) | (with_reducible refine ssq_drop ?_) | (with_reducible refine ssq_dput ?_) | (with_reducible refine ssq_par ?_) | (with_reducible refine ss_asg ?_) | (with_reducible refine sg_name ?_) | (with_reducible refine ss_ret ?_) | (with_reducible refine ss_next ?_) | (with_reducible refine ss_dput ?_) | (with_reducible refine ss_drop ?_)
  | (with_reducible refine et_test ?_) | (with_reducible refine et_B ?_) | (with_reducible refine et_not ?_) | (with_reducible refine et_and ?_) | (with_reducible refine et_or ?_) | (with_reducible refine et_ifE ?_)
  | (with_reducible refine ee_andV ?_) | (with_reducible refine ee_orV ?_) | (with_reducible refine ee_notV ?_) | (with_reducible refine ee_chain ?_)
  | (with_reducible refine ee_op ?_) | ((with_reducible refine ee_var (a := ?a1) ?h1 ?_); (case h1 => exact rfl)) | (with_reducible refine ee_int ?_) | (with_reducible refine ee_str ?_) | (with_reducible refine ee_bl ?_) | (with_reducible refine ee_non ?_) | (with_reducible refine ee_ty ?_)
  | (with_reducible refine ee_dget ?_) | (with_reducible refine ee_cb ?_) | (with_reducible refine ea_cons ?_) | (with_reducible refine ea_nil ?_)
  | ((with_reducible refine ee_call ?_)) | (with_reducible refine ee_revT ?_) | (with_reducible refine ee_sl ?_) | (with_reducible refine eo_none ?_) | (with_reducible refine eo_some ?_) | (with_reducible refine rs_tup ?_)
  | (with_reducible refine rr_add ?_) | (with_reducible refine rr_sub ?_) | (with_reducible refine rr_lt ?_) | (with_reducible refine rr_le ?_) | (with_reducible refine rr_gt ?_) | (with_reducible refine rr_ge ?_) | (with_reducible refine rr_eqI ?_) | (with_reducible refine rr_neI ?_) | (with_reducible refine rr_eqStr ?_) | (with_reducible refine rr_neStr ?_)
  | (with_reducible refine rr_eqSS ?_) | (with_reducible refine rr_eqS0T ?_)
  | ((with_reducible refine rr_mod ?h1 ?_); (case h1 => omega)) | ((with_reducible refine rr_pow ?h1 ?_); (case h1 => (refine ⟨by omega, by omega, by omega⟩)))
  | ((with_reducible refine rr_mul ?h1 ?_); (case h1 => (first | exact .inl ⟨by omega, by omega⟩ | exact .inr ⟨by omega, by omega⟩)))
  | ((with_reducible refine rr_fdivW ?h1 ?_); (case h1 => exact cdivW (by omega) (by omega)))
  | (with_reducible refine rc_abs ?_) | (with_reducible refine rc_int_bl ?_) | (with_reducible refine ru_neg ?_) | (with_reducible refine ee_un ?_) | (with_reducible refine ee_if ?_) | (with_reducible refine rc_ord ?_) | (with_reducible refine rc_len_tup ?_)
  | (with_reducible refine rc_isi (kit_tup _) (.d _) ?_) | (with_reducible refine rc_isi (kit_str _) (.d _) ?_) | (with_reducible refine rc_isi (kit_int _) (.d _) ?_) | (with_reducible refine rc_isi (kit_bool _) (.d _) ?_) | (with_reducible refine rc_isi (kit_list _) (.d _) ?_)
  | (with_reducible refine tt ?_) | (with_reducible refine ff ?_) | (with_reducible refine ttN ?_) | (with_reducible refine ffN ?_)
  | (with_reducible refine et_yes ?_) | (with_reducible refine rr_isN ?_) | (with_reducible refine rr_notN ?_) | ((with_reducible refine rr_at (d := ?d1) ?h0 ?h1 ?_); (case h0 => decide); (case h1 => exact rfl)) | ((with_reducible refine rr_atL (d := ?d1) ?h0 ?h1 ?_); (case h0 => decide); (case h1 => exact rfl))
  | (with_reducible refine ee_tup ?_) | (with_reducible refine ee_lst ?_)
  | (with_reducible refine ⟨_, rfl, ?_⟩)
  | (with_reducible refine row0 ?_) | (with_reducible refine row1 ?_) | (with_reducible refine row2 ?_) | (with_reducible refine row3 ?_) | (with_reducible refine row4 ?_) | (with_reducible refine row5 ?_) | (with_reducible refine row6 ?_) | (with_reducible refine row7 ?_) | (with_reducible refine row8 ?_) | (with_reducible refine row9 ?_) | (with_reducible refine row10 ?_) | (with_reducible refine row11 ?_) | (with_reducible refine row12 ?_) | (with_reducible refine row13 ?_) | (with_reducible refine row14 ?_) | (with_reducible refine row15 ?_) | (with_reducible refine row16 ?_) | (with_reducible refine row17 ?_) | (with_reducible refine row18 ?_) | (with_reducible refine row19 ?_) | (with_reducible refine row20 ?_))
theorem ris_num (b : PyData) : risD false b = (areNums b && ascD b) := by
  cases b <;> rfl
theorem ris_sep (xs : List PyData) : (risD true (.tuple xs) && !xs.isEmpty) = sepsD (.tuple xs) := by
  simp only [risD, sepsD]
  have e : okItem true = isKey := by funext x; rfl
  rw [e]
  cases xs.all isKey <;> cases xs.isEmpty <;> cases ascI (intsOf xs) <;> rfl
theorem two_parts {xs : List PyData} (h : decide ((xs.length : Int) = 2) = true) : ∃ a b, xs = [a, b] := two_of h
theorem three_parts {xs : List PyData} (h : decide ((xs.length : Int) = 3) = true) : ∃ a b c, xs = [a, b, c] := by
  match xs, h with
  | [a, b, c], _ => exact ⟨a, b, c, rfl⟩
  | [], h => simp at h
  | [_], h => simp at h
  | [_, _], h => simp at h
  | _ :: _ :: _ :: _ :: r, h =>
    simp at h
    omega
theorem parts_other {n : Str} {rest : List PyData} (h1 : n ≠ "free") (h2 : n = "head" → ¬ (rest.length : Int) = 2) (h3 : n = "space" → ¬ (rest.length : Int) = 3) (h4 : n = "inner" → ¬ (rest.length : Int) = 2) (h5 : (n = "leaf" ∨ n = "piece") → ¬ (rest.length : Int) = 2) : partsD n rest = false := by
  cases e : partsD n rest with
  | false => rfl
  | true =>
    exfalso
    have hc := len_cases (n := n) (rest := rest) (by
      rw [len_right e]
      simp [PyData.eqv])
    rcases hc with ⟨hn | hn | hn | hn, a, b, rfl⟩ | ⟨hn, a, b, c, rfl⟩ | ⟨hn, rfl⟩
    · exact h2 hn (by simp)
    · exact h5 (.inl hn) (by simp)
    · exact h4 hn (by simp)
    · exact h5 (.inr hn) (by simp)
    · exact h3 hn (by simp)
    · exact h1 hn
-- slots: 0:_law_thing 1:_law_word 2:_law_parts
abbrev s_law_due : Stmt := top 34
theorem sc_law_due : FnScope ["_law_thing", "_law_word", "_law_parts"] ["_law_thing"] (defScope s_law_due) := ⟨rfl, rfl, rfl, by decide +kernel, rfl, by decide +kernel, by decide +kernel⟩
theorem ok__law_due {f : Addr} {fd : FuncData} (Fn : Fun K "_law_due" "_law_due" s_law_due f fd) (T : Bt mg) (h__law_is_number : Has P w K mg base "_law_is_number" 1 ["_law_thing"] S_is_number)
    (h__law_is_rising : Has P w K mg base "_law_is_rising" 2 ["_law_thing", "_law_are_keys"] S_rising) (h__law_are_lower : Has P w K mg base "_law_are_lower" 2 ["_law_separators", "_law_thing"] S_are_lower)
    (h__law_are_records : Has P w K mg base "_law_are_records" 3 ["_law_thing"] S_are_held_records) (h__law_is_text : Has P w K mg base "_law_is_text" 1 ["_law_thing", "_law_least", "_law_most"] S_is_text) :
    FnOk P w K mg base CX0 4 f fd ["_law_thing"] (toSp K 1 S_is_image) := by
  refine def_ok Fn sc_law_due (fun cdv A outer s H E hr => ?_)
  refine ⟨_, (pss_cons (ps_if (PW.pt (pw_or (pt_not (pt_val (pe_callB (show CallR _ _ (rIsi K) from call_isi) (by rfl) T.isinstance (by decide +kernel) (pa_cons (pv 0) (pa_cons (pe_bltn (v := .ty "tuple") (by rfl) T.tuple (by decide +kernel) rfl) pa_nil))))) (pw_or (pt_cmpR (show OpR _ _ (rEqS K) from op_eqS hr.units) (pv 0) (pe_tup pa_nil) (nomark _)) (pw_or1 (pt_not (pt_val (pe_callB (show CallR _ _ (rIsi K) from call_isi) (by rfl) T.isinstance (by decide +kernel) (pa_cons (pe_ix (show IxR _ (rIx K) from ix_seq) (pv 0) pe_int (fun _ _ => rfl)) (pa_cons (pe_bltn (v := .ty "str") (by rfl) T.str (by decide +kernel) rfl) pa_nil))))))))) (pss_one (ps_ret pe_bl)) pss_nil)
      (pss_cons (ps_par (i := 1) (j := 2) (by rfl) sc_law_due.nd rfl rfl (by decide) rfl rfl (pa_cons (pe_ix (show IxR _ (rIx K) from ix_seq) (pv 0) pe_int (fun _ _ => rfl)) (pa_cons (pe_slice (show SlR _ (rSlA K) from sl_tupA) (pv 0) (po_some pe_int) po_none) pa_nil)) (by rfl))
      (pss_cons (ps_if (pt_cmpR op_eq (pv 1) pe_str (nomark _)) (pss_one (ps_ret (pe_cmpR (show OpR _ _ (rEqS K) from op_eqS hr.units) (pv 2) (pe_tup pa_nil) (nomark _)))) pss_nil)
      (pss_cons (ps_if (PW.pt (pw_and (pt_cmpR op_eq (pv 1) pe_str (nomark _)) (pw_and1 (pt_cmpR op_eq (pe_callB (show CallR _ _ (fun xs H Q => ∃ x n, xs = [x] ∧ LenV K x H n ∧ Q (.int n) H) from call_len) (by rfl) T.len (by decide +kernel) (pa_cons (pv 2) pa_nil)) pe_int (nomark _))))) (pss_one (ps_ret (pe_and (pe_call h__law_is_number.ok (hr.mono (by first | decide | (show _ ≤ 3 + _; omega))) (by rfl) h__law_is_number.mg h__law_is_number.kp h__law_is_number.b .nil pass0 (pa_cons (pe_ix (show IxR _ (rIx K) from ix_seq) (pv 2) pe_int (fun _ _ => rfl)) pa_nil)) (pe_one (pe_call h__law_is_number.ok (hr.mono (by first | decide | (show _ ≤ 3 + _; omega))) (by rfl) h__law_is_number.mg h__law_is_number.kp h__law_is_number.b .nil pass0 (pa_cons (pe_ix (show IxR _ (rIx K) from ix_seq) (pv 2) pe_int (fun _ _ => rfl)) pa_nil)))))) pss_nil)
      (pss_cons (ps_if (PW.pt (pw_and (pt_cmpR op_eq (pv 1) pe_str (nomark _)) (pw_and1 (pt_cmpR op_eq (pe_callB (show CallR _ _ (fun xs H Q => ∃ x n, xs = [x] ∧ LenV K x H n ∧ Q (.int n) H) from call_len) (by rfl) T.len (by decide +kernel) (pa_cons (pv 2) pa_nil)) pe_int (nomark _))))) (pss_one (ps_ret (pe_and (pe_call h__law_is_number.ok (hr.mono (by first | decide | (show _ ≤ 3 + _; omega))) (by rfl) h__law_is_number.mg h__law_is_number.kp h__law_is_number.b .nil pass0 (pa_cons (pe_ix (show IxR _ (rIx K) from ix_seq) (pv 2) pe_int (fun _ _ => rfl)) pa_nil)) (pe_and (pe_call h__law_is_rising.ok (hr.mono (by first | decide | (show _ ≤ 3 + _; omega))) (by rfl) h__law_is_rising.mg h__law_is_rising.kp h__law_is_rising.b .nil pass0 (pa_cons (pe_ix (show IxR _ (rIx K) from ix_seq) (pv 2) pe_int (fun _ _ => rfl)) (pa_cons pe_bl pa_nil))) (pe_one (pe_call h__law_is_number.ok (hr.mono (by first | decide | (show _ ≤ 3 + _; omega))) (by rfl) h__law_is_number.mg h__law_is_number.kp h__law_is_number.b .nil pass0 (pa_cons (pe_ix (show IxR _ (rIx K) from ix_seq) (pv 2) pe_int (fun _ _ => rfl)) pa_nil))))))) pss_nil)
      (pss_cons (ps_if (PW.pt (pw_and (pt_cmpR op_eq (pv 1) pe_str (nomark _)) (pw_and1 (pt_cmpR op_eq (pe_callB (show CallR _ _ (fun xs H Q => ∃ x n, xs = [x] ∧ LenV K x H n ∧ Q (.int n) H) from call_len) (by rfl) T.len (by decide +kernel) (pa_cons (pv 2) pa_nil)) pe_int (nomark _))))) (pss_one (ps_ret (pe_and (pe_call h__law_is_rising.ok (hr.mono (by first | decide | (show _ ≤ 3 + _; omega))) (by rfl) h__law_is_rising.mg h__law_is_rising.kp h__law_is_rising.b .nil pass0 (pa_cons (pe_ix (show IxR _ (rIx K) from ix_seq) (pv 2) pe_int (fun _ _ => rfl)) (pa_cons pe_bl pa_nil))) (pe_and (pe_cmpR (show OpR _ _ (rNeD K) from op_neD hr.units) (pe_ix (show IxR _ (rIx K) from ix_seq) (pv 2) pe_int (fun _ _ => rfl)) (pe_tup pa_nil) (nomark _)) (pe_one (pe_call h__law_are_lower.ok (hr.mono (by first | decide | (show _ ≤ 3 + _; omega))) (by rfl) h__law_are_lower.mg h__law_are_lower.kp h__law_are_lower.b .nil pass0 (pa_cons (pe_ix (show IxR _ (rIx K) from ix_seq) (pv 2) pe_int (fun _ _ => rfl)) (pa_cons (pe_ix (show IxR _ (rIx K) from ix_seq) (pv 2) pe_int (fun _ _ => rfl)) pa_nil)))))))) pss_nil)
      (pss_cons (ps_if (PW.pt (pw_and (pt_cmpR (show OpR _ _ (rIn K false) from op_in_seq) (pv 1) (pe_tup (pa_cons pe_str (pa_cons pe_str pa_nil))) (by rfl)) (pw_and1 (pt_cmpR op_eq (pe_callB (show CallR _ _ (fun xs H Q => ∃ x n, xs = [x] ∧ LenV K x H n ∧ Q (.int n) H) from call_len) (by rfl) T.len (by decide +kernel) (pa_cons (pv 2) pa_nil)) pe_int (nomark _))))) (pss_cons (ps_if (PW.pt (pw_and (pt_cmpR op_notN (pe_ix (show IxR _ (rIx K) from ix_seq) (pv 2) pe_int (fun _ _ => rfl)) pe_non (nomark _)) (pw_and1 (pt_not (pt_val (pe_call h__law_is_number.ok (hr.mono (by first | decide | (show _ ≤ 3 + _; omega))) (by rfl) h__law_is_number.mg h__law_is_number.kp h__law_is_number.b .nil pass0 (pa_cons (pe_ix (show IxR _ (rIx K) from ix_seq) (pv 2) pe_int (fun _ _ => rfl)) pa_nil))))))) (pss_one (ps_ret pe_bl)) pss_nil)
      (pss_one (ps_ret (pe_ifExp (pt_cmpR op_eq (pv 1) pe_str (nomark _)) (pe_call h__law_are_records.ok (hr.mono (by first | decide | (show _ ≤ 3 + _; omega))) (by rfl) h__law_are_records.mg h__law_are_records.kp h__law_are_records.b .nil pass0 (pa_cons (pe_ix (show IxR _ (rIx K) from ix_seq) (pv 2) pe_int (fun _ _ => rfl)) pa_nil)) (pe_call h__law_is_text.ok (hr.mono (by first | decide | (show _ ≤ 3 + _; omega))) (by rfl) h__law_is_text.mg h__law_is_text.kp h__law_is_text.b .nil pass0 (pa_cons (pe_ix (show IxR _ (rIx K) from ix_seq) (pv 2) pe_int (fun _ _ => rfl)) (pa_cons pe_int (pa_cons pe_int pa_nil)))))))) pss_nil)
      (pss_one (ps_ret pe_bl))))))))), ?_⟩
  rintro as M R hl ⟨x, rfl, hx, k⟩
  try simp only [cxK]
  show SS K _ [some (.d x), none, none] M _
  refine ss_seq (ss_if ?_)
  repeat walk_at "v"
  refine ⟨fun h => ?_, fun h => ?_⟩
  · repeat walk_at "v"
    exact fin_b k (by cases x <;> simp_all [isTup, imgD])
  obtain ⟨xs, rfl⟩ := tup_of (by simpa using h)
  repeat walk_at "v"
  match xs, hx, k with
  | [], _, k =>
    refine tt ?_
    repeat walk_at "v"
    exact fin_b k rfl
  | v0 :: rest, hx, k =>
    have hlen := hx.len _ rfl
    have hone := fun y hy => hx.one (v0 :: rest) y rfl hy
    refine ff ?_
    repeat walk_at "v"
    refine ⟨fun h1 => ?_, fun h1 => ?_⟩
    · repeat walk_at "v"
      exact fin_b k (by cases v0 <;> simp_all [isStr, imgD])
    obtain ⟨n, rfl⟩ : ∃ n, v0 = .str n := by
      cases v0 <;> simp [isStr] at h1
      exact ⟨_, rfl⟩
    have kk : R (.d (.bool (partsD n rest))) M := k
    have cut : cutL (PyData.str n :: rest) (some 1) none = rest := cut1 _
    repeat walk_at "v"
    rw [cut]
    refine ⟨_, _, rfl, ?_⟩
    show SS K _ [some (.d (.tuple (.str n :: rest))), some (.d (.str n)), some (.d (.tuple rest))] M _
    refine ss_when (p := n = "free") (fun R k => by (repeat walk_at "v"); exact k) (fun n1 => ?_) fun n1 => ?_
    · repeat walk_at "v"
      exact fin_b kk (by
        rw [n1]
        match rest with
        | [] => decide +kernel
        | [_] => rfl
        | [a, b] => simp [partsD, show ¬ (Str.ofString "free" = Str.ofString "head") by decide +kernel, show ¬ (Str.ofString "free" = Str.ofString "leaf") by decide +kernel, show ¬ (Str.ofString "free" = Str.ofString "inner") by decide +kernel, show ¬ (Str.ofString "free" = Str.ofString "piece") by decide +kernel]
        | [_, _, _] => simp [partsD, show ¬ (Str.ofString "free" = Str.ofString "space") by decide +kernel]
        | _ :: _ :: _ :: _ :: _ => rfl)
    -- head
    refine ss_when2 (p := n = "head") (q := (rest.length : Int) = 2) (fun R k => by (repeat walk_at "v"); exact k) (fun _ R k => by (repeat walk_at "v"); exact k) (fun c => ?_) fun c1 => ?_
    · obtain ⟨a, b, rfl⟩ := two_parts (decide_eq_true c.2)
      repeat walk_at "v"
      refine ⟨rfl, a, rfl, _, rfl, fun g1 => ?_, fun g1 => ?_⟩
      · repeat walk_at "v"
        exact ⟨rfl, b, rfl, fin_b kk (by rw [c.1]; simp [partsD, g1])⟩
      · exact fin_b kk (by rw [c.1]; simp [partsD, g1])
    -- space
    refine ss_when2 (p := n = "space") (q := (rest.length : Int) = 3) (fun R k => by (repeat walk_at "v"); exact k) (fun _ R k => by (repeat walk_at "v"); exact k) (fun c => ?_) fun c2 => ?_
    · obtain ⟨a, b, d, rfl⟩ := three_parts (decide_eq_true c.2)
      have eq : partsD n [a, b, d] = (isNum a && (risD false b && isNum d)) := by
        rw [c.1, ris_num]
        simp [partsD]
        cases isNum a <;> cases isNum d <;> cases areNums b <;> cases ascD b <;> rfl
      rw [eq] at kk
      have hb := (hone b (by simp)).1.2
      repeat walk_at "v"
      refine ⟨rfl, a, rfl, _, rfl, fun g1 => ?_, fun g1 => ?_⟩
      · repeat walk_at "v"
        refine ⟨rfl, b, false, rfl, hb, _, rfl, fun g2 => ?_, fun g2 => ?_⟩
        · repeat walk_at "v"
          exact ⟨rfl, d, rfl, fin_b kk (by rw [g1, g2]; rfl)⟩
        · exact fin_b kk (by rw [g1, g2]; rfl)
      · exact fin_b kk (by rw [g1]; rfl)
    -- inner
    refine ss_when2 (p := n = "inner") (q := (rest.length : Int) = 2) (fun R k => by (repeat walk_at "v"); exact k) (fun _ R k => by (repeat walk_at "v"); exact k) (fun c => ?_) fun c3 => ?_
    · obtain ⟨a, b, rfl⟩ := two_parts (decide_eq_true c.2)
      have eq : partsD n [a, b] = (sepsD a && (areNums b && decide (lenD b = lenD a + 1))) := by
        rw [c.1]; simp [partsD, show ¬ (Str.ofString "inner" = Str.ofString "head") by decide +kernel, show ¬ (Str.ofString "inner" = Str.ofString "leaf") by decide +kernel, Bool.and_assoc]
      rw [eq] at kk
      have ha := (hone a (by simp)).1.2
      have hb := (hone b (by simp)).1.2
      repeat walk_at "v"
      refine ⟨rfl, a, true, rfl, ha, _, rfl, fun g1 => ?_, fun g1 => ?_⟩
      · obtain ⟨as, rfl⟩ : ∃ as, a = .tuple as := by
          cases a <;> simp [risD] at g1
          exact ⟨_, rfl⟩
        have hall := ints_of (xs := as) fun x hx => okItem_int (List.all_eq_true.mp (Bool.and_eq_true_iff.mp g1).1 x hx)
        rw [← ris_sep, g1] at kk
        repeat walk_at "v"
        refine rr_neD (.d _) (.d _) (by rw [hall]; exact shaped_intsT _) (by decide) ?_
        have ee : PyData.eqv (.tuple as) (.tuple []) = as.isEmpty := by cases as <;> simp [PyData.eqv, PyData.eqvAll]
        rw [ee]
        repeat walk_at "v"
        refine ⟨fun g2 => ?_, fun g2 => ?_⟩
        · repeat walk_at "v"
          exact ⟨rfl, as, b, rfl, hb, fin_b kk (by rw [g2]; rfl)⟩
        · exact fin_b kk (by rw [g2]; rfl)
      · refine fin_b kk ?_
        have : sepsD a = false := by
          cases a with
          | tuple as => rw [← ris_sep, g1]; rfl
          | _ => rfl
        rw [this]; rfl
    -- leaf, piece
    refine ss_when2 (p := n = "leaf" ∨ n = "piece") (q := (rest.length : Int) = 2) (fun R k => ?_) (fun _ R k => by (repeat walk_at "v"); exact k) (fun c => ?_) fun c4 => ?_
    · repeat walk_at "v"
      refine rr_inS2 (xs := ["leaf", "piece"]) ?_
      repeat walk_at "v"
      have e : (List.any ([(Str.ofString "leaf"), (Str.ofString "piece")] : List Str) fun y => decide (y = n)) = decide (n = "leaf" ∨ n = "piece") := by
        simp [eq_comm]
      rw [e]
      exact k
    · obtain ⟨a, b, rfl⟩ := two_parts (decide_eq_true c.2)
      have ha := hone a (by simp)
      have eqL : n = "leaf" → partsD n [a, b] = (recsD a && linkD b) := fun e => by
        rw [e]; simp [partsD, show ¬ (Str.ofString "leaf" = Str.ofString "head") by decide +kernel]
      have eqP : n = "piece" → partsD n [a, b] = (okText 1 8 a && linkD b) := fun e => by
        rw [e]; simp [partsD, show ¬ (Str.ofString "piece" = Str.ofString "head") by decide +kernel, show ¬ (Str.ofString "piece" = Str.ofString "leaf") by decide +kernel, show ¬ (Str.ofString "piece" = Str.ofString "inner") by decide +kernel]
      have not_b : ∀ c : Bool, (!c) = decide (c = false) := fun c => by cases c <;> rfl
      refine ss_when2 (p := isNon b = false) (q := isNum b = false) (fun R k => ?_) (fun _ R k => ?_) (fun c5 => ?_) fun c5 => ?_
      · repeat walk_at "v"
        rw [not_b]
        exact k
      · repeat walk_at "v"
        refine ⟨rfl, b, rfl, _, rfl, ?_⟩
        rw [not_b]
        exact k
      · repeat walk_at "v"
        refine fin_b kk ?_
        have lb : linkD b = false := by rw [linkD, c5.1, c5.2]; rfl
        rcases c.1 with e | e
        · rw [eqL e, lb, Bool.and_false]
        · rw [eqP e, lb, Bool.and_false]
      · have lb : linkD b = true := by
          rw [linkD]
          cases h1 : isNon b with
          | true => rfl
          | false =>
            cases h2 : isNum b with
            | true => rfl
            | false => exact absurd ⟨h1, h2⟩ c5
        repeat walk_at "v"
        refine ⟨fun z => ?_, fun z => ?_⟩
        · have z := of_decide_eq_true z
          rw [eqL z, lb, Bool.and_true] at kk
          repeat walk_at "v"
          exact ⟨rfl, a, rfl, ha.2, fin_d kk⟩
        · have z := of_decide_eq_false z
          have e : n = "piece" := c.1.resolve_left z
          rw [eqP e, lb, Bool.and_true] at kk
          repeat walk_at "v"
          exact ⟨rfl, a, 1, 8, rfl, ha.1.1, fin_d kk⟩
    · repeat walk_at "v"
      exact fin_b kk (parts_other n1 (fun e z => c1 ⟨e, z⟩) (fun e z => c2 ⟨e, z⟩) (fun e z => c3 ⟨e, z⟩) (fun e z => c4 ⟨e, z⟩))
end K49

set_option Elab.async false
set_option linter.all false
set_option maxRecDepth 100000
set_option maxHeartbeats 4000000
namespace K49
open PySem PySem.Spec PyProof.Rows L2 DL
variable {P : Program} {w : World} {K : PySem.W.Frag} {mg : Str → Option Value} {base : Heap}
local macro_rules | `(tactic| walk_at "v") => `(tactic| first
  | (with_reducible refine ssq_asg ?_) | (with_reducible refine ssq_drop ?_) | (with_reducible refine ssq_dput ?_) | (with_reducible refine ssq_par ?_) | (with_reducible refine ss_asg ?_) | (with_reducible refine sg_name ?_) | (with_reducible refine ss_ret ?_) | (with_reducible refine ss_next ?_) | (with_reducible refine ss_dput ?_) | (with_reducible refine ss_drop ?_)
  | (with_reducible refine et_test ?_) | (with_reducible refine et_B ?_) | (with_reducible refine et_not ?_) | (with_reducible refine et_and ?_) | (with_reducible refine et_or ?_) | (with_reducible refine et_ifE ?_)
  | (with_reducible refine ee_andV ?_) | (with_reducible refine ee_orV ?_) | (with_reducible refine ee_notV ?_) | (with_reducible refine ee_chain ?_)
  | (with_reducible refine ee_op ?_) | ((with_reducible refine ee_var (a := ?a1) ?h1 ?_); (case h1 => exact rfl)) | (with_reducible refine ee_int ?_) | (with_reducible refine ee_str ?_) | (with_reducible refine ee_bl ?_) | (with_reducible refine ee_non ?_) | (with_reducible refine ee_ty ?_)
  | (with_reducible refine ee_dget ?_) | (with_reducible refine ee_cb ?_) | (with_reducible refine ea_cons ?_) | (with_reducible refine ea_nil ?_)
  | ((with_reducible refine ee_call ?_)) | (with_reducible refine ee_revT ?_) | (with_reducible refine ee_sl ?_) | (with_reducible refine eo_none ?_) | (with_reducible refine eo_some ?_) | (with_reducible refine rs_tup ?_)
  | (with_reducible refine rr_add ?_) | (with_reducible refine rr_sub ?_) | (with_reducible refine rr_lt ?_) | (with_reducible refine rr_le ?_) | (with_reducible refine rr_gt ?_) | (with_reducible refine rr_ge ?_) | (with_reducible refine rr_eqI ?_) | (with_reducible refine rr_neI ?_) | (with_reducible refine rr_eqStr ?_) | (with_reducible refine rr_neStr ?_)
  | (with_reducible refine rr_eqSS ?_) | (with_reducible refine rr_eqS0T ?_)
  | ((with_reducible refine rr_mod ?h1 ?_); (case h1 => omega)) | ((with_reducible refine rr_pow ?h1 ?_); (case h1 => (refine ⟨by omega, by omega, by omega⟩)))
  | ((with_reducible refine rr_mul ?h1 ?_); (case h1 => (first | exact .inl ⟨by omega, by omega⟩ | exact .inr ⟨by omega, by omega⟩)))
  | ((with_reducible refine rr_fdivW ?h1 ?_); (case h1 => exact cdivW (by omega) (by omega)))
  | (with_reducible refine rc_abs ?_) | (with_reducible refine rc_int_bl ?_) | (with_reducible refine ru_neg ?_) | (with_reducible refine ee_un ?_) | (with_reducible refine ee_if ?_) | (with_reducible refine rc_ord ?_) | (with_reducible refine rc_len_tup ?_)
  | (with_reducible refine rc_isi (kit_tup _) (.d _) ?_) | (with_reducible refine rc_isi (kit_str _) (.d _) ?_) | (with_reducible refine rc_isi (kit_int _) (.d _) ?_) | (with_reducible refine rc_isi (kit_bool _) (.d _) ?_) | (with_reducible refine rc_isi (kit_list _) (.d _) ?_)
  | (with_reducible refine tt ?_) | (with_reducible refine ff ?_) | (with_reducible refine ttN ?_) | (with_reducible refine ffN ?_)
  | (with_reducible refine et_yes ?_) | (with_reducible refine rr_isN ?_) | (with_reducible refine rr_notN ?_) | ((with_reducible refine rr_at (d := ?d1) ?h0 ?h1 ?_); (case h0 => decide); (case h1 => exact rfl)) | ((with_reducible refine rr_atL (d := ?d1) ?h0 ?h1 ?_); (case h0 => decide); (case h1 => exact rfl))
  | (with_reducible refine ee_tup ?_) | (with_reducible refine ee_lst ?_)
  | (with_reducible refine ⟨_, rfl, ?_⟩)
  | (with_reducible refine row0 ?_) | (with_reducible refine row1 ?_) | (with_reducible refine row2 ?_) | (with_reducible refine row3 ?_) | (with_reducible refine row4 ?_) | (with_reducible refine row5 ?_) | (with_reducible refine row6 ?_) | (with_reducible refine row7 ?_) | (with_reducible refine row8 ?_) | (with_reducible refine row9 ?_) | (with_reducible refine row10 ?_) | (with_reducible refine row11 ?_) | (with_reducible refine row12 ?_) | (with_reducible refine row13 ?_) | (with_reducible refine row14 ?_) | (with_reducible refine row15 ?_) | (with_reducible refine row16 ?_) | (with_reducible refine row17 ?_) | (with_reducible refine row18 ?_) | (with_reducible refine row19 ?_) | (with_reducible refine row20 ?_))
/-! ### the pen: the script's ints, how many were drawn, what is left of a great one -/
def pen (ns : List Int) (t lf : Int) : List AV := [.d (.list (ns.map PyData.int)), .d (.int t), .d (.int lf)]
def PenOk (b : Nat) (M : MH) (l : Addr) : Prop := ∃ ns t lf, M l = some (.lst (pen ns t lf)) ∧ ns.length ≤ 63 ∧ 0 ≤ t ∧ t + b ≤ 100000 ∧ 0 ≤ lf
def Near (l : Addr) (M M' : MH) : Prop := ∀ a, a ≠ l → M' a = M a
theorem Near.refl (l : Addr) (M : MH) : Near l M M := fun _ _ => rfl
theorem Near.trans {l : Addr} {A B C : MH} (h : Near l A B) (h' : Near l B C) : Near l A C := fun a ha => (h' a ha).trans (h a ha)
theorem near_upd {l : Addr} {M : MH} {o : MO} : Near l M (updM M l o) := fun _ ha => updM_ne ha
-- slots: 0:_law_pen_here 1:_law_bound 2:_law_at 3:_law_cell 4:_law_mixed 5:_law_digit 6:_law_great
abbrev s_law_draw : Stmt := top 25
theorem sc_law_draw : FnScope ["_law_pen_here", "_law_bound", "_law_at", "_law_cell", "_law_mixed", "_law_digit", "_law_great"] ["_law_pen_here", "_law_bound"] (defScope s_law_draw) := ⟨rfl, rfl, rfl, by decide +kernel, rfl, by decide +kernel, by decide +kernel⟩
def S_draw : SpD := fun as M R => ∃ l b n, as = [.m l, .d (.int n)] ∧ (0 < n ∧ n ≤ 1000000) ∧ PenOk (b + 1) M l ∧ ∀ r M', 0 ≤ r → r < n → PenOk b M' l → Near l M M' → R (.d (.int r)) M'
theorem ok__law_draw {f : Addr} {fd : FuncData} (Fn : Fun K "_law_draw" "_law_draw" s_law_draw f fd) (T : Bt mg) : FnOk P w K mg base CX0 1 f fd ["_law_pen_here", "_law_bound"] (toSp K 2 S_draw) := by
  refine def_ok Fn sc_law_draw (fun cdv A outer s H E hr => ?_)
  have hu := hu_of hr
  refine ⟨_, (pss_cons (ps_if (pt_cmpR op_gt (pe_ix (show IxR _ (rIx K) from ix_seq) (pv 0) pe_int (fun _ _ => rfl)) pe_int (nomark _)) (pss_cons (ps_set (i := 5) sc_law_draw.nd rfl (by first | exact Or.inl rfl | exact Or.inr rfl) (pe_op op_mod (pe_ix (show IxR _ (rIx K) from ix_seq) (pv 0) pe_int (fun _ _ => rfl)) (pv 1)))
      (pss_cons (ps_asg (pe_op op_fdivW (pe_ix (show IxR _ (rIx K) from ix_seq) (pv 0) pe_int (fun _ _ => rfl)) (pv 1)) (pg_sub (pv 0) pe_int set_list))
      (pss_one (ps_ret (pv 5))))) pss_nil)
      (pss_cons (ps_set (i := 2) sc_law_draw.nd rfl (by first | exact Or.inl rfl | exact Or.inr rfl) (pe_ix (show IxR _ (rIx K) from ix_seq) (pv 0) pe_int (fun _ _ => rfl)))
      (pss_cons (ps_asg (pe_op op_add (pv 2) pe_int) (pg_sub (pv 0) pe_int set_list))
      (pss_cons (ps_set (i := 3) sc_law_draw.nd rfl (by first | exact Or.inl rfl | exact Or.inr rfl) (pe_op op_add (pe_op op_mul pe_int (pv 2)) pe_int))
      (pss_cons (ps_if (pt_cmpR (show OpR _ _ (rNeD K) from op_neD hr.units) (pe_ix (show IxR _ (rIx K) from ix_seq) (pv 0) pe_int (fun _ _ => rfl)) (pe_lst pa_nil) (nomark _)) (pss_one (ps_set (i := 3) sc_law_draw.nd rfl (by first | exact Or.inl rfl | exact Or.inr rfl) (pe_ix (show IxR _ (rIx K) from ix_seq) (pe_ix (show IxR _ (rIx K) from ix_seq) (pv 0) pe_int (fun _ _ => rfl)) (pe_op op_mod (pv 2) (pe_callB (show CallR _ _ (fun xs H Q => ∃ x n, xs = [x] ∧ LenV K x H n ∧ Q (.int n) H) from call_len) (by rfl) T.len (by decide +kernel) (pa_cons (pe_ix (show IxR _ (rIx K) from ix_seq) (pv 0) pe_int (fun _ _ => rfl)) pa_nil))) (fun _ _ => rfl)))) pss_nil)
      (pss_cons (ps_if (PW.pt (pw_and (pt_cmpR op_lt (pv 2) (pe_callB (show CallR _ _ (fun xs H Q => ∃ x n, xs = [x] ∧ LenV K x H n ∧ Q (.int n) H) from call_len) (by rfl) T.len (by decide +kernel) (pa_cons (pe_ix (show IxR _ (rIx K) from ix_seq) (pv 0) pe_int (fun _ _ => rfl)) pa_nil)) (nomark _)) (pw_and1 (pt_cmpR op_ge (pe_callB call_abs (by rfl) T.abs (by decide +kernel) (pa_cons (pv 3) pa_nil)) (pe_op op_pow pe_int pe_int) (nomark _))))) (pss_cons (ps_set (i := 6) sc_law_draw.nd rfl (by first | exact Or.inl rfl | exact Or.inr rfl) (pe_op op_add (pe_op op_mul pe_int (pe_callB call_abs (by rfl) T.abs (by decide +kernel) (pa_cons (pv 3) pa_nil))) (pe_callTy call_int1 (by rfl) T.int (by decide +kernel) (pa_cons (pe_cmpR op_lt (pv 3) pe_int (nomark _)) pa_nil))))
      (pss_cons (ps_asg (pe_op op_fdivW (pv 6) (pv 1)) (pg_sub (pv 0) pe_int set_list))
      (pss_one (ps_ret (pe_op op_mod (pv 6) (pv 1)))))) pss_nil)
      (pss_cons (ps_set (i := 4) sc_law_draw.nd rfl (by first | exact Or.inl rfl | exact Or.inr rfl) (pe_op op_mod (pe_op op_pow (pe_op op_add (pe_op op_add (pe_op op_mod (pv 3) pe_int) (pe_op op_mul pe_int (pv 2))) pe_int) pe_int) pe_int))
      (pss_cons (ps_set (i := 4) sc_law_draw.nd rfl (by first | exact Or.inl rfl | exact Or.inr rfl) (pe_op op_mod (pe_op op_pow (pe_op op_add (pe_op op_add (pe_op op_mul (pv 4) (pe_op op_add (pv 2) pe_int)) (pe_op op_mul (pe_op op_mul pe_int (pv 2)) (pv 2))) pe_int) pe_int) pe_int))
      (pss_one (ps_ret (pe_op op_mod (pe_op op_fdivW (pv 4) pe_int) (pv 1)))))))))))), ?_⟩
  rintro as M R hl ⟨l, b, n, rfl, hn, ⟨ns, t, lf, hM, h63, h0, hb, hlf⟩, k⟩
  try simp only [cxK]
  show SS K _ [some (.m l), some (.d (.int n)), none, none, none, none, none] M _
  have kk : ∀ (r t' lf' : Int), 0 ≤ r → r < n → t ≤ t' → t' ≤ t + 1 → 0 ≤ lf' → R (.d (.int r)) (updM M l (.lst (pen ns t' lf'))) := fun r t' lf' h1 h2 h3 h4 h5 =>
    k r _ h1 h2 ⟨ns, t', lf', updM_same, h63, by omega, by omega, h5⟩ near_upd
  refine ss_seq (ss_if ?_)
  repeat walk_at "v"
  refine rr_ixM hM rfl ?_
  repeat walk_at "v"
  refine ⟨fun hc => ?_, fun hc => ?_⟩
  · repeat walk_at "v"
    refine rr_ixM hM rfl ?_
    repeat walk_at "v"
    refine rr_ixM hM rfl ?_
    repeat walk_at "v"
    refine sg_sub ?_
    repeat walk_at "v"
    refine ⟨_, _, _, rfl, hM, rfl, ?_⟩
    repeat walk_at "v"
    refine fin_d ?_
    show R (.d (.int (lf % n))) (updM M l (.lst (pen ns t (lf / n))))
    exact kk _ _ _ (Int.emod_nonneg _ (by omega)) (Int.emod_lt_of_pos _ (by omega)) (Int.le_refl _) (by omega) (Int.ediv_nonneg (by omega) (by omega))
  · repeat walk_at "v"
    refine rr_ixM hM rfl ?_
    repeat walk_at "v"
    refine sg_sub ?_
    repeat walk_at "v"
    refine ⟨_, _, _, rfl, hM, rfl, ?_⟩
    show SS K _ [some (.m l), some (.d (.int n)), some (.d (.int t)), none, none, none, none] (updM M l (.lst (pen ns (t + 1) lf))) _
    have hM1 : updM M l (.lst (pen ns (t + 1) lf)) l = some (.lst (pen ns (t + 1) lf)) := updM_same
    repeat walk_at "v"
    refine ss_cut (fun e M1 => ∃ c : Int, e = [some (.m l), some (.d (.int n)), some (.d (.int t)), some (.d (.int c)), none, none, none] ∧ M1 = updM M l (.lst (pen ns (t + 1) lf))) (ss_if ?_) ?_
    · repeat walk_at "v"
      refine rr_ixM hM1 rfl ?_
      repeat walk_at "v"
      refine rr_neD (.d _) (.d _) (shaped_ints ns) shaped_nil ?_
      rw [eqv_nil]
      repeat walk_at "v"
      refine ⟨fun hc => ?_, fun hc => ?_⟩
      · have hpos : 0 < ns.length := by
          cases ns with
          | nil => simp at hc
          | cons a b => simp
        repeat walk_at "v"
        refine rr_ixM hM1 rfl ?_
        repeat walk_at "v"
        refine rr_ixM hM1 rfl ?_
        repeat walk_at "v"
        refine rc_len_list (.d _) ?_
        rw [List.length_map]
        refine rr_mod (by omega) ?_
        refine rr_ixD (atD_ints (Int.emod_nonneg _ (by omega)) (Int.emod_lt_of_pos _ (by omega))) ?_
        repeat walk_at "v"
        exact rfl
      · repeat walk_at "v"
        exact rfl
    · rintro e M1 ⟨c, rfl, rfl⟩
      have fin : ∀ (r lf' : Int), 0 ≤ r → r < n → 0 ≤ lf' → R (.d (.int r)) (updM M l (.lst (pen ns (t + 1) lf'))) := fun r lf' h0 h1 h2 => kk r (t + 1) lf' h0 h1 (by omega) (Int.le_refl _) h2
      refine ss_cut (fun e M1 => e = [some (.m l), some (.d (.int n)), some (.d (.int t)), some (.d (.int c)), none, none, none] ∧ M1 = updM M l (.lst (pen ns (t + 1) lf))) (ss_if (et_and ?_)) ?_
      · repeat walk_at "v"
        refine rr_ixM hM1 rfl ?_
        repeat walk_at "v"
        refine rc_len_list (.d _) ?_
        repeat walk_at "v"
        refine ⟨fun hc2 => ?_, fun hc2 => ⟨fun z => (by cases z), fun _ => ?_⟩⟩
        · repeat walk_at "v"
          refine ⟨fun hc3 => ?_, fun hc3 => ?_⟩
          · have h18 : (10 : Int) ^ (18 : Int).toNat = 1000000000000000000 := by decide
            rw [h18] at hc3
            have hc4 : (1000000000000000000 : Int) ≤ if c < 0 then -c else c := of_decide_eq_true hc3
            repeat walk_at "v"
            refine sg_sub ?_
            repeat walk_at "v"
            refine ⟨_, _, _, rfl, hM1, rfl, ?_⟩
            repeat walk_at "v"
            refine fin_d ?_
            rw [updM_updM]
            refine fin _ _ (Int.emod_nonneg _ (by omega)) (Int.emod_lt_of_pos _ (by omega)) (Int.ediv_nonneg ?_ (by omega))
            split <;> split <;> omega
          · repeat walk_at "v"
            first | exact ⟨rfl, rfl⟩ | exact rfl
        · repeat walk_at "v"
          first | exact ⟨rfl, rfl⟩ | exact rfl
      · rintro e M1 ⟨rfl, rfl⟩
        repeat walk_at "v"
        have e1 : 52025 * t * t = 52025 * (t * t) := Int.mul_assoc ..
        have b0 : 0 ≤ t * t := Int.mul_nonneg (by omega) (by omega)
        have b1 : t * t ≤ 100000 * 100000 := Int.mul_le_mul (by omega) (by omega) (by omega) (by omega)
        repeat walk_at "v"
        generalize hm : (c % 2147483647 + 52021 * t + 131) ^ (5 : Int).toNat % 2147483629 = m
        have m0 : 0 ≤ m := by rw [← hm]; exact Int.emod_nonneg _ (by omega)
        have m1 : m < 2147483629 := by rw [← hm]; exact Int.emod_lt_of_pos _ (by omega)
        repeat walk_at "v"
        have c0 : 0 ≤ m * (t + 88017) := Int.mul_nonneg m0 (by omega)
        have c1 : m * (t + 88017) ≤ 2147483629 * 300000 := Int.mul_le_mul (by omega) (by omega) (by omega) (by omega)
        repeat walk_at "v"
        refine fin_d ?_
        refine fin _ _ (Int.emod_nonneg _ (by omega)) (Int.emod_lt_of_pos _ (by omega)) (by omega)
end K49

set_option Elab.async false
set_option linter.all false
set_option maxRecDepth 100000
set_option maxHeartbeats 4000000
namespace K49
open PySem PySem.Spec PyProof.Rows L2 DL
variable {P : Program} {w : World} {K : PySem.W.Frag} {mg : Str → Option Value} {base : Heap}
local macro_rules | `(tactic| walk_at "v") => `(tactic| first
  | (with_reducible refine ssq_asg ?_) | (with_reducible refine ssq_drop ?_) | (with_reducible refine ssq_dput ?_) | (with_reducible refine ssq_par ?_) | (with_reducible refine ss_asg ?_) | (with_reducible refine sg_name ?_) | (with_reducible refine ss_ret ?_) | (with_reducible refine ss_next ?_) | (with_reducible refine ss_dput ?_) | (with_reducible refine ss_drop ?_)
  | (with_reducible refine et_test ?_) | (with_reducible refine et_B ?_) | (with_reducible refine et_not ?_) | (with_reducible refine et_and ?_) | (with_reducible refine et_or ?_) | (with_reducible refine et_ifE ?_)
  | (with_reducible refine ee_andV ?_) | (with_reducible refine ee_orV ?_) | (with_reducible refine ee_notV ?_) | (with_reducible refine ee_chain ?_)
  | (with_reducible refine ee_op ?_) | ((with_reducible refine ee_var (a := ?a1) ?h1 ?_); (case h1 => exact rfl)) | (with_reducible refine ee_int ?_) | (with_reducible refine ee_str ?_) | (with_reducible refine ee_bl ?_) | (with_reducible refine ee_non ?_) | (with_reducible refine ee_ty ?_)
  | (with_reducible refine ee_dget ?_) | (with_reducible refine ee_cb ?_) | (with_reducible refine ea_cons ?_) | (with_reducible refine ea_nil ?_)
  | ((with_reducible refine ee_call ?_)) | (with_reducible refine ee_revT ?_) | (with_reducible refine ee_sl ?_) | (with_reducible refine eo_none ?_) | (with_reducible refine eo_some ?_) | (with_reducible refine rs_tup ?_)
  | (with_reducible refine rr_add ?_) | (with_reducible refine rr_sub ?_) | (with_reducible refine rr_lt ?_) | (with_reducible refine rr_le ?_) | (with_reducible refine rr_gt ?_) | (with_reducible refine rr_ge ?_) | (with_reducible refine rr_eqI ?_) | (with_reducible refine rr_neI ?_) | (with_reducible refine rr_eqStr ?_) | (with_reducible refine rr_neStr ?_)
  | (with_reducible refine rr_eqSS ?_) | (with_reducible refine rr_eqS0T ?_)
  | ((with_reducible refine rr_mod ?h1 ?_); (case h1 => omega)) | ((with_reducible refine rr_pow ?h1 ?_); (case h1 => (refine ⟨by omega, by omega, by omega⟩)))
  | ((with_reducible refine rr_mul ?h1 ?_); (case h1 => (first | exact .inl ⟨by omega, by omega⟩ | exact .inr ⟨by omega, by omega⟩)))
  | ((with_reducible refine rr_fdivW ?h1 ?_); (case h1 => exact cdivW (by omega) (by omega)))
  | (with_reducible refine rc_abs ?_) | (with_reducible refine rc_int_bl ?_) | (with_reducible refine ru_neg ?_) | (with_reducible refine ee_un ?_) | (with_reducible refine ee_if ?_) | (with_reducible refine rc_ord ?_) | (with_reducible refine rc_len_tup ?_)
  | (with_reducible refine rc_isi (kit_tup _) (.d _) ?_) | (with_reducible refine rc_isi (kit_str _) (.d _) ?_) | (with_reducible refine rc_isi (kit_int _) (.d _) ?_) | (with_reducible refine rc_isi (kit_bool _) (.d _) ?_) | (with_reducible refine rc_isi (kit_list _) (.d _) ?_)
  | (with_reducible refine tt ?_) | (with_reducible refine ff ?_) | (with_reducible refine ttN ?_) | (with_reducible refine ffN ?_)
  | (with_reducible refine et_yes ?_) | (with_reducible refine rr_isN ?_) | (with_reducible refine rr_notN ?_) | ((with_reducible refine rr_at (d := ?d1) ?h0 ?h1 ?_); (case h0 => decide); (case h1 => exact rfl)) | ((with_reducible refine rr_atL (d := ?d1) ?h0 ?h1 ?_); (case h0 => decide); (case h1 => exact rfl))
  | (with_reducible refine ee_tup ?_) | (with_reducible refine ee_lst ?_)
  | (with_reducible refine ⟨_, rfl, ?_⟩)
  | (with_reducible refine row0 ?_) | (with_reducible refine row1 ?_) | (with_reducible refine row2 ?_) | (with_reducible refine row3 ?_) | (with_reducible refine row4 ?_) | (with_reducible refine row5 ?_) | (with_reducible refine row6 ?_) | (with_reducible refine row7 ?_) | (with_reducible refine row8 ?_) | (with_reducible refine row9 ?_) | (with_reducible refine row10 ?_) | (with_reducible refine row11 ?_) | (with_reducible refine row12 ?_) | (with_reducible refine row13 ?_) | (with_reducible refine row14 ?_) | (with_reducible refine row15 ?_) | (with_reducible refine row16 ?_) | (with_reducible refine row17 ?_) | (with_reducible refine row18 ?_) | (with_reducible refine row19 ?_) | (with_reducible refine row20 ?_))
/-! ### what is drawn -/
theorem PenOk.less {b b' : Nat} {M : MH} {l : Addr} (h : PenOk b M l) (hb : b' ≤ b) : PenOk b' M l := by
  obtain ⟨ns, t, lf, h1, h2, h3, h4, h5⟩ := h
  exact ⟨ns, t, lf, h1, h2, h3, by omega, h5⟩
abbrev HDraw (P : Program) (w : World) (K : PySem.W.Frag) (mg : Str → Option Value) (base : Heap) := Has P w K mg base "_law_draw" 1 ["_law_pen_here", "_law_bound"] S_draw
-- slots: 0:_law_pen_here 1:_law_far
abbrev s_law_key : Stmt := top 26
theorem sc_law_key : FnScope ["_law_pen_here", "_law_far"] ["_law_pen_here"] (defScope s_law_key) := ⟨rfl, rfl, rfl, by decide +kernel, rfl, by decide +kernel, by decide +kernel⟩
def S_key : SpD := fun as M R => ∃ l b, as = [.m l] ∧ PenOk (b + 6) M l ∧ ∀ i M', isKey (.int i) = true → PenOk b M' l → Near l M M' → R (.d (.int i)) M'
theorem ok__law_key {f : Addr} {fd : FuncData} (Fn : Fun K "_law_key" "_law_key" s_law_key f fd) (T : Bt mg) (h__law_draw : HDraw P w K mg base) : FnOk P w K mg base CX0 2 f fd ["_law_pen_here"] (toSp K 1 S_key) := by
  refine def_ok Fn sc_law_key (fun cdv A outer s H E hr => ?_)
  refine ⟨_, (pss_cons (ps_set (i := 1) sc_law_key.nd rfl (by first | exact Or.inl rfl | exact Or.inr rfl) (pe_op op_sub (pe_op op_sub (pe_op op_pow pe_int pe_int) pe_int) (pe_call h__law_draw.ok (hr.mono (by first | decide | (show _ ≤ 3 + _; omega))) (by rfl) h__law_draw.mg h__law_draw.kp h__law_draw.b .nil pass0 (pa_cons (pv 0) (pa_cons pe_int pa_nil)))))
      (pss_one (ps_ret (pe_ix (show IxR _ (rIx K) from ix_seq) (pe_lst (pa_cons (pe_call h__law_draw.ok (hr.mono (by first | decide | (show _ ≤ 3 + _; omega))) (by rfl) h__law_draw.mg h__law_draw.kp h__law_draw.b .nil pass0 (pa_cons (pv 0) (pa_cons pe_int pa_nil))) (pa_cons (pe_op op_sub (pe_call h__law_draw.ok (hr.mono (by first | decide | (show _ ≤ 3 + _; omega))) (by rfl) h__law_draw.mg h__law_draw.kp h__law_draw.b .nil pass0 (pa_cons (pv 0) (pa_cons pe_int pa_nil))) pe_int) (pa_cons (pv 1) (pa_cons (pe_op op_sub pe_int (pv 1)) (pa_cons (pe_call h__law_draw.ok (hr.mono (by first | decide | (show _ ≤ 3 + _; omega))) (by rfl) h__law_draw.mg h__law_draw.kp h__law_draw.b .nil pass0 (pa_cons (pv 0) (pa_cons pe_int pa_nil))) pa_nil)))))) (pe_call h__law_draw.ok (hr.mono (by first | decide | (show _ ≤ 3 + _; omega))) (by rfl) h__law_draw.mg h__law_draw.kp h__law_draw.b .nil pass0 (pa_cons (pv 0) (pa_cons pe_int pa_nil))) (fun _ _ => rfl))))), ?_⟩
  rintro as M R hl ⟨l, b, rfl, h0, k⟩
  try simp only [cxK]
  show SS K _ [some (.m l), none] M _
  have ten : (10 : Int) ^ (15 : Int).toNat = 1000000000000000 := by decide
  repeat walk_at "v"
  rw [ten]
  refine ⟨rfl, l, b + 5, 3, rfl, by decide, h0, fun r1 M1 a1 b1 h1 n1 => ?_⟩
  repeat walk_at "v"
  refine ⟨rfl, l, b + 4, 12, rfl, by decide, h1, fun r2 M2 a2 b2 h2 n2 => ?_⟩
  repeat walk_at "v"
  refine ⟨rfl, l, b + 3, 40, rfl, by decide, h2, fun r3 M3 a3 b3 h3 n3 => ?_⟩
  repeat walk_at "v"
  refine ⟨rfl, l, b + 2, 24, rfl, by decide, h3, fun r4 M4 a4 b4 h4 n4 => ?_⟩
  repeat walk_at "v"
  refine ⟨rfl, l, b + 1, 5, rfl, by decide, h4, fun r5 M5 a5 b5 h5 n5 => ?_⟩
  have nn : Near l M M5 := (((n1.trans n2).trans n3).trans n4).trans n5
  have pick : ∀ i : Int, -1000000000000000 < i → i < 1000000000000000 → ∃ a' M', Out (.d (.int i)) M5 a' M' ∧ R a' M' := fun i h1 h2 => fin_d (k i M5 (by simp [isKey]; omega) (h5.less (by omega)) nn)
  have cases5 : r5 = 0 ∨ r5 = 1 ∨ r5 = 2 ∨ r5 = 3 ∨ r5 = 4 := by omega
  rcases cases5 with rfl | rfl | rfl | rfl | rfl
  all_goals
    repeat walk_at "v"
    exact pick _ (by omega) (by omega)
-- slots: 0:_law_pen_here
abbrev s_law_page : Stmt := top 36
theorem sc_law_page : FnScope ["_law_pen_here"] ["_law_pen_here"] (defScope s_law_page) := ⟨rfl, rfl, rfl, by decide +kernel, rfl, by decide +kernel, by decide +kernel⟩
def S_page : SpD := fun as M R => ∃ l b, as = [.m l] ∧ PenOk (b + 3) M l ∧ ∀ i M', 0 ≤ i → i ≤ 100000000000000000000 → PenOk b M' l → Near l M M' → R (.d (.int i)) M'
theorem ok__law_page {f : Addr} {fd : FuncData} (Fn : Fun K "_law_page" "_law_page" s_law_page f fd) (T : Bt mg) (h__law_draw : HDraw P w K mg base) : FnOk P w K mg base CX0 2 f fd ["_law_pen_here"] (toSp K 1 S_page) := by
  refine def_ok Fn sc_law_page (fun cdv A outer s H E hr => ?_)
  refine ⟨_, (pss_one (ps_ret (pe_ix (show IxR _ (rIx K) from ix_seq) (pe_lst (pa_cons (pe_call h__law_draw.ok (hr.mono (by first | decide | (show _ ≤ 3 + _; omega))) (by rfl) h__law_draw.mg h__law_draw.kp h__law_draw.b .nil pass0 (pa_cons (pv 0) (pa_cons pe_int pa_nil))) (pa_cons (pe_call h__law_draw.ok (hr.mono (by first | decide | (show _ ≤ 3 + _; omega))) (by rfl) h__law_draw.mg h__law_draw.kp h__law_draw.b .nil pass0 (pa_cons (pv 0) (pa_cons pe_int pa_nil))) (pa_cons (pe_op op_pow pe_int pe_int) (pa_cons pe_int pa_nil))))) (pe_call h__law_draw.ok (hr.mono (by first | decide | (show _ ≤ 3 + _; omega))) (by rfl) h__law_draw.mg h__law_draw.kp h__law_draw.b .nil pass0 (pa_cons (pv 0) (pa_cons pe_int pa_nil))) (fun _ _ => rfl)))), ?_⟩
  rintro as M R hl ⟨l, b, rfl, h0, k⟩
  try simp only [cxK]
  show SS K _ [some (.m l)] M _
  have ten : (10 : Int) ^ (20 : Int).toNat = 100000000000000000000 := by decide
  repeat walk_at "v"
  refine ⟨rfl, l, b + 2, 12, rfl, by decide, h0, fun r1 M1 a1 b1 h1 n1 => ?_⟩
  repeat walk_at "v"
  refine ⟨rfl, l, b + 1, 900, rfl, by decide, h1, fun r2 M2 a2 b2 h2 n2 => ?_⟩
  repeat walk_at "v"
  rw [ten]
  refine ⟨rfl, l, b, 4, rfl, by decide, h2, fun r3 M3 a3 b3 h3 n3 => ?_⟩
  have pick : ∀ i : Int, 0 ≤ i → i ≤ 100000000000000000000 → ∃ a' M', Out (.d (.int i)) M3 a' M' ∧ R a' M' := fun i h1 h2 => fin_d (k i M3 h1 h2 h3 ((n1.trans n2).trans n3))
  have cases4 : r3 = 0 ∨ r3 = 1 ∨ r3 = 2 ∨ r3 = 3 := by omega
  rcases cases4 with rfl | rfl | rfl | rfl
  all_goals
    repeat walk_at "v"
    exact pick _ (by omega) (by omega)
theorem joinL_ones (cs : List Nat) : TL.joinL [] (cs.map fun c => [c]) = cs := by
  induction cs with
  | nil => rfl
  | cons c cs ih =>
    cases cs with
    | nil => rfl
    | cons d cs =>
      simp only [List.map_cons, TL.joinL] at ih ⊢
      rw [ih]
      rfl
theorem join_signs (cs : List Nat) : (Txt.join "" (cs.map fun c => (⟨#[c]⟩ : Str))).cps.toList = cs := by
  rw [TL.join_eq]
  show TL.tl (Str.join "" (cs.map fun c => (⟨#[c]⟩ : Str))) = cs
  rw [TL.tl_join, List.map_map]
  exact joinL_ones cs
def signAt (i : Int) : Nat := allSigns.cps.toList.getD i.toNat 0
theorem signs_many : allSigns.cps.toList.length = 94 := by decide +kernel
theorem signAt_ok {i : Int} (h0 : 0 ≤ i) (h1 : i < 94) : allSigns.cps.toList[i.toNat]? = some (signAt i) ∧ okSign (signAt i) = true := by
  have hl : i.toNat < allSigns.cps.toList.length := by rw [signs_many]; omega
  have e : allSigns.cps.toList[i.toNat]? = some (signAt i) := by
    simp only [signAt, List.getD_eq_getElem?_getD]
    rw [List.getElem?_eq_getElem hl]
    rfl
  refine ⟨e, ?_⟩
  rw [← signs_ok]
  exact decide_eq_true (List.mem_of_getElem? e)
def codesOf (a : Int) (n : Nat) : List Nat := (List.range n).map fun k => signAt ((a + 9 * (k : Nat)) % 94)
theorem codes_ok {a : Int} {n : Nat} {lo : Int} (h1 : lo ≤ n) (h2 : n ≤ 8) : okText lo 8 (.str (Txt.join "" ((codesOf a n).map fun c => (⟨#[c]⟩ : Str)))) = true := by
  have e := join_signs (codesOf a n)
  have el : (Txt.join "" ((codesOf a n).map fun c => (⟨#[c]⟩ : Str))).length = n := by
    show (Txt.join "" ((codesOf a n).map fun c => (⟨#[c]⟩ : Str))).cps.size = n
    rw [← Array.length_toList, e]
    simp [codesOf]
  simp only [okText, el, e]
  have all : (codesOf a n).all okSign = true := by
    rw [List.all_eq_true]
    intro c hc
    obtain ⟨k, _, rfl⟩ := List.mem_map.mp hc
    exact (signAt_ok (Int.emod_nonneg _ (by decide)) (Int.emod_lt_of_pos _ (by decide))).2
  rw [all]
  simp
  omega
def letterD (a : Int) : PyData → Option PyData
  | .int k => some (.str ⟨#[signAt ((a + 9 * k) % 94)]⟩)
  | _ => none
theorem letters (a : Int) (n : Nat) : (upto n 0).filterMap (letterD a) = ((codesOf a n).map fun c => (⟨#[c]⟩ : Str)).map PyData.str := by
  have e : (letterD a ∘ fun (i : Nat) => PyData.int (0 + (i : Int))) = (some ∘ fun (k : Nat) => PyData.str ⟨#[signAt ((a + 9 * (k : Int)) % 94)]⟩) := by
    funext k
    simp [letterD]
  unfold upto codesOf
  rw [List.filterMap_map, e, List.filterMap_eq_map, List.map_map, List.map_map]
  rfl
theorem lens_ones (cs : List Nat) : ((cs.map fun c => (⟨#[c]⟩ : Str)).map (·.length)).sum = cs.length := by
  induction cs with
  | nil => rfl
  | cons c cs ih =>
    simp only [List.map_cons, List.sum_cons, List.length_cons] at ih ⊢
    rw [ih]
    show 1 + cs.length = cs.length + 1
    omega
-- slots: 0:_law_pen_here 1:_law_least 2:_law_signs 3:_law_size 4:_law_at 5:_law_k
abbrev s_law_short : Stmt := top 37
theorem sc_law_short : FnScope ["_law_pen_here", "_law_least", "_law_signs", "_law_size", "_law_at", "_law_k"] ["_law_pen_here", "_law_least"] (defScope s_law_short) := ⟨rfl, rfl, rfl, by decide +kernel, rfl, by decide +kernel, by decide +kernel⟩
def S_short : SpD := fun as M R => ∃ l b n, as = [.m l, .d (.int n)] ∧ (0 ≤ n ∧ n ≤ 1) ∧ PenOk (b + 3) M l ∧ ∀ z M', okText n 8 (.str z) = true → PenOk b M' l → Near l M M' → R (.d (.str z)) M'
theorem ok__law_short {f : Addr} {fd : FuncData} (Fn : Fun K "_law_short" "_law_short" s_law_short f fd) (T : Bt mg) (h__law_draw : HDraw P w K mg base) : FnOk P w K mg base CX0 2 f fd ["_law_pen_here", "_law_least"] (toSp K 2 S_short) := by
  refine def_ok Fn sc_law_short (fun cdv A outer s H E hr => ?_)
  refine ⟨_, (pss_cons (ps_set (i := 2) sc_law_short.nd rfl (by first | exact Or.inl rfl | exact Or.inr rfl) pe_str)
      (pss_cons (ps_asg (pe_tup (pa_cons (pe_ix (show IxR _ (rIx K) from ix_seq) (pe_lst (pa_cons (pv 1) (pa_cons pe_int (pa_cons (pe_op op_add (pv 1) (pe_call h__law_draw.ok (hr.mono (by first | decide | (show _ ≤ 3 + _; omega))) (by rfl) h__law_draw.mg h__law_draw.kp h__law_draw.b .nil pass0 (pa_cons (pv 0) (pa_cons (pe_op op_sub pe_int (pv 1)) pa_nil)))) pa_nil)))) (pe_call h__law_draw.ok (hr.mono (by first | decide | (show _ ≤ 3 + _; omega))) (by rfl) h__law_draw.mg h__law_draw.kp h__law_draw.b .nil pass0 (pa_cons (pv 0) (pa_cons pe_int pa_nil))) (fun _ _ => rfl)) (pa_cons (pe_call h__law_draw.ok (hr.mono (by first | decide | (show _ ≤ 3 + _; omega))) (by rfl) h__law_draw.mg h__law_draw.kp h__law_draw.b .nil pass0 (pa_cons (pv 0) (pa_cons pe_int pa_nil))) pa_nil))) (pg_tup rfl (pgs_cons (pg_name (i := 3) sc_law_short.nd rfl (by first | exact Or.inl rfl | exact Or.inr rfl)) (pgs_cons (pg_name (i := 4) sc_law_short.nd rfl (by first | exact Or.inl rfl | exact Or.inr rfl)) pgs_nil))))
      (pss_one (ps_ret (pe_bm PySem.F.plainAttrs_str PySem.F.slot_str_join PySem.F.type_str_join (mt_join) pe_str (pa_cons (pe_lc (own := [("_law_k", 5)]) (g := (gName 5)) (tt := tYes) (by rfl) sc_law_short.nd (pi_range1 (by rfl) T.range (pa_cons (pv 3) pa_nil)) (blkOk_by (own := [("_law_k", 5)]) (N := ["_law_pen_here", "_law_least", "_law_signs", "_law_size", "_law_at", "_law_k"]) (sc := defScope s_law_short) (by decide +kernel)) (fun _ _ _ _ _ => (pg_name (i := 5) sc_law_short.nd rfl (by first | exact Or.inl rfl | exact Or.inr rfl))) (fun _ _ _ _ _ => pts_nil) (fun _ _ _ _ _ => (pe_ix (show IxR _ (rIx K) from ix_seq) (pv 2) (pe_op op_mod (pe_op op_add (pv 4) (pe_op op_mul pe_int (pv 5))) pe_int) (fun _ _ => rfl)))) pa_nil)))))), ?_⟩
  rintro as M R hl ⟨l, b, n, rfl, hn, h0, k⟩
  try simp only [cxK]
  show SS K _ [some (.m l), some (.d (.int n)), none, none, none, none] M _
  repeat walk_at "v"
  refine ⟨rfl, l, b + 2, 9 - n, rfl, by omega, h0, fun r1 M1 a1 b1 h1 n1 => ?_⟩
  repeat walk_at "v"
  refine ⟨rfl, l, b + 1, 3, rfl, by decide, h1, fun r2 M2 a2 b2 h2 n2 => ?_⟩
  have cases3 : r2 = 0 ∨ r2 = 1 ∨ r2 = 2 := by omega
  have zl : allSigns.length ≤ 100000 := by decide +kernel
  rcases cases3 with rfl | rfl | rfl
  all_goals
    repeat walk_at "v"
    refine ⟨rfl, l, b, 94, rfl, by decide, h2, fun r3 M3 a3 b3 h3 n3 => ?_⟩
    repeat walk_at "v"
    refine sg_tup rfl (sgs_cons (sg_name (sgs_cons (sg_name (sgs_nil ?_)))))
    repeat walk_at "v"
    refine ee_join ?_
    repeat walk_at "v"
    refine ee_lc (only_name (by simp)) (ei_r1 ?_)
    repeat walk_at "v"
    refine ⟨by omega, ?_⟩
    refine lc_map (letterD r3) trivial (fun x hx' T' acc ty _ => ?_) ?_ (by simp [upto]; try omega)
    · obtain ⟨k', _, rfl⟩ := List.mem_map.mp hx'
      repeat walk_at "v"
      have hh := signAt_ok (i := (r3 + 9 * (0 + (k' : Int))) % 94) (Int.emod_nonneg _ (by decide)) (Int.emod_lt_of_pos _ (by decide))
      refine rr_ixS zl (atI_nat' (Int.emod_nonneg _ (by decide)) hh.1) ?_
      exact ty _ rfl
    · repeat walk_at "v"
      rw [letters]
      refine ⟨_, .d _, ?_, fin_d (k _ M3 (codes_ok (by omega) (by omega)) h3 ((n1.trans n2).trans n3))⟩
      rw [lens_ones]
      simp only [codesOf, List.length_map, List.length_range]
      rw [show (Str.ofString "").length = 0 from rfl]
      omega
end K49

set_option Elab.async false
set_option linter.all false
set_option maxRecDepth 100000
set_option maxHeartbeats 4000000
namespace K49
open PySem PySem.Spec PyProof.Rows L2 DL
variable {P : Program} {w : World} {K : PySem.W.Frag} {mg : Str → Option Value} {base : Heap}
local macro_rules | `(tactic| walk_at "v") => `(tactic| first
  | (with_reducible refine ssq_asg ?_) | (with_reducible refine ssq_drop ?_) | (with_reducible refine ssq_dput ?_) | (with_reducible refine ssq_par ?_) | (with_reducible refine ss_asg ?_) | (with_reducible refine sg_name ?_) | (with_reducible refine ss_ret ?_) | (with_reducible refine ss_next ?_) | (with_reducible refine ss_dput ?_) | (with_reducible refine ss_drop ?_)
  | (with_reducible refine et_test ?_) | (with_reducible refine et_B ?_) | (with_reducible refine et_not ?_) | (with_reducible refine et_and ?_) | (with_reducible refine et_or ?_) | (with_reducible refine et_ifE ?_)
  | (with_reducible refine ee_andV ?_) | (with_reducible refine ee_orV ?_) | (with_reducible refine ee_notV ?_) | (with_reducible refine ee_chain ?_)
  | (with_reducible refine ee_op ?_) | ((with_reducible refine ee_var (a := ?a1) ?h1 ?_); (case h1 => exact rfl)) | (with_reducible refine ee_int ?_) | (with_reducible refine ee_str ?_) | (with_reducible refine ee_bl ?_) | (with_reducible refine ee_non ?_) | (with_reducible refine ee_ty ?_)
  | (with_reducible refine ee_dget ?_) | (with_reducible refine ee_cb ?_) | (with_reducible refine ea_cons ?_) | (with_reducible refine ea_nil ?_)
  | ((with_reducible refine ee_call ?_)) | (with_reducible refine ee_revT ?_) | (with_reducible refine ee_sl ?_) | (with_reducible refine eo_none ?_) | (with_reducible refine eo_some ?_) | (with_reducible refine rs_tup ?_)
  | (with_reducible refine rr_add ?_) | (with_reducible refine rr_sub ?_) | (with_reducible refine rr_lt ?_) | (with_reducible refine rr_le ?_) | (with_reducible refine rr_gt ?_) | (with_reducible refine rr_ge ?_) | (with_reducible refine rr_eqI ?_) | (with_reducible refine rr_neI ?_) | (with_reducible refine rr_eqStr ?_) | (with_reducible refine rr_neStr ?_)
  | (with_reducible refine rr_eqSS ?_) | (with_reducible refine rr_eqS0T ?_)
  | ((with_reducible refine rr_mod ?h1 ?_); (case h1 => omega)) | ((with_reducible refine rr_pow ?h1 ?_); (case h1 => (refine ⟨by omega, by omega, by omega⟩)))
  | ((with_reducible refine rr_mul ?h1 ?_); (case h1 => (first | exact .inl ⟨by omega, by omega⟩ | exact .inr ⟨by omega, by omega⟩)))
  | ((with_reducible refine rr_fdivW ?h1 ?_); (case h1 => exact cdivW (by omega) (by omega)))
  | (with_reducible refine rc_abs ?_) | (with_reducible refine rc_int_bl ?_) | (with_reducible refine ru_neg ?_) | (with_reducible refine ee_un ?_) | (with_reducible refine ee_if ?_) | (with_reducible refine rc_ord ?_) | (with_reducible refine rc_len_tup ?_)
  | (with_reducible refine rc_isi (kit_tup _) (.d _) ?_) | (with_reducible refine rc_isi (kit_str _) (.d _) ?_) | (with_reducible refine rc_isi (kit_int _) (.d _) ?_) | (with_reducible refine rc_isi (kit_bool _) (.d _) ?_) | (with_reducible refine rc_isi (kit_list _) (.d _) ?_)
  | (with_reducible refine tt ?_) | (with_reducible refine ff ?_) | (with_reducible refine ttN ?_) | (with_reducible refine ffN ?_)
  | (with_reducible refine et_yes ?_) | (with_reducible refine rr_isN ?_) | (with_reducible refine rr_notN ?_) | ((with_reducible refine rr_at (d := ?d1) ?h0 ?h1 ?_); (case h0 => decide); (case h1 => exact rfl)) | ((with_reducible refine rr_atL (d := ?d1) ?h0 ?h1 ?_); (case h0 => decide); (case h1 => exact rfl))
  | (with_reducible refine ee_tup ?_) | (with_reducible refine ee_lst ?_)
  | (with_reducible refine ⟨_, rfl, ?_⟩)
  | (with_reducible refine row0 ?_) | (with_reducible refine row1 ?_) | (with_reducible refine row2 ?_) | (with_reducible refine row3 ?_) | (with_reducible refine row4 ?_) | (with_reducible refine row5 ?_) | (with_reducible refine row6 ?_) | (with_reducible refine row7 ?_) | (with_reducible refine row8 ?_) | (with_reducible refine row9 ?_) | (with_reducible refine row10 ?_) | (with_reducible refine row11 ?_) | (with_reducible refine row12 ?_) | (with_reducible refine row13 ?_) | (with_reducible refine row14 ?_) | (with_reducible refine row15 ?_) | (with_reducible refine row16 ?_) | (with_reducible refine row17 ?_) | (with_reducible refine row18 ?_) | (with_reducible refine row19 ?_) | (with_reducible refine row20 ?_))
theorem putA_keys {kvs : List (Key × AV)} {ks : List Int} (h : kvs.map (·.1) = ks.map Sum.inl) (x : Int) (v : AV) : (putA kvs (.inl x) v).map (·.1) = (if x ∈ ks then ks else ks ++ [x]).map Sum.inl := by
  have hany : (kvs.any fun kv => decide (kv.1 = Sum.inl x)) = decide (x ∈ ks) := by
    have e1 : (kvs.any fun kv => decide (kv.1 = (Sum.inl x : Key))) = (kvs.map (·.1)).any fun y => decide (y = Sum.inl x) := by
      rw [List.any_map]; rfl
    rw [e1, h, List.any_map]
    rw [Bool.eq_iff_iff]
    simp only [List.any_eq_true, Function.comp_apply, decide_eq_true_eq, Sum.inl.injEq]
    constructor
    · rintro ⟨y, hy, rfl⟩; exact hy
    · intro hx; exact ⟨x, hx, rfl⟩
  unfold putA
  rw [hany]
  by_cases hx : x ∈ ks
  · rw [if_pos (decide_eq_true hx), if_pos hx, ← h, List.map_map]
    refine List.map_congr_left fun kv _ => ?_
    simp only [Function.comp_apply]
    split
    · rename_i e; exact e ▸ rfl
    · rfl
  · rw [if_neg (by simpa using hx), if_neg hx, List.map_append, h]
    simp
theorem asc_of {ys : List Int} (h : ys.Pairwise (· ≤ ·)) (hn : ys.Nodup) : ascI ys = true := by
  rw [ascI_iff]
  intro j x y hx hy
  have hj := (List.getElem?_eq_some_iff.mp hx)
  have hj1 := (List.getElem?_eq_some_iff.mp hy)
  obtain ⟨l1, rfl⟩ := hj
  obtain ⟨l2, rfl⟩ := hj1
  have h1 := List.pairwise_iff_getElem.mp h j (j + 1) l1 l2 (by omega)
  have h2 := List.pairwise_iff_getElem.mp hn j (j + 1) l1 l2 (by omega)
  omega
-- slots: 0:_law_pen_here 1:_law_most 2:_law_found 3:_law_k
abbrev s_law_rising : Stmt := top 35
theorem sc_law_rising : FnScope ["_law_pen_here", "_law_most", "_law_found", "_law_k"] ["_law_pen_here", "_law_most"] (defScope s_law_rising) := ⟨rfl, rfl, rfl, by decide +kernel, rfl, by decide +kernel, by decide +kernel⟩
def KeysIn (m : Int) (ns : List Int) : Prop := (ns.length : Int) ≤ m ∧ ascI ns = true ∧ ∀ i ∈ ns, isKey (.int i) = true
def S_ascending : SpD := fun as M R => ∃ l b m, as = [.m l, .d (.int m)] ∧ (0 ≤ m ∧ m ≤ 5) ∧ PenOk (b + 31) M l ∧ ∀ ns M', KeysIn m ns → PenOk b M' l → Near l M M' → R (.d (.tuple (ns.map PyData.int))) M'
theorem ok__law_rising {f : Addr} {fd : FuncData} (Fn : Fun K "_law_rising" "_law_rising" s_law_rising f fd) (T : Bt mg) (h__law_draw : HDraw P w K mg base) (h__law_key : Has P w K mg base "_law_key" 2 ["_law_pen_here"] S_key) :
    FnOk P w K mg base CX0 3 f fd ["_law_pen_here", "_law_most"] (toSp K 2 S_ascending) := by
  refine def_ok Fn sc_law_rising (fun cdv A outer s H E hr => ?_)
  have hu := hu_of hr
  refine ⟨_, (pss_cons (ps_set (i := 2) sc_law_rising.nd rfl (by first | exact Or.inl rfl | exact Or.inr rfl) pe_dnewK)
      (pss_cons (ps_for PassesOwn.never rfl (pi_range1 (by rfl) T.range (pa_cons (pe_call h__law_draw.ok (hr.mono (by first | decide | (show _ ≤ 3 + _; omega))) (by rfl) h__law_draw.mg h__law_draw.kp h__law_draw.b .nil pass0 (pa_cons (pv 0) (pa_cons (pe_op op_add (pv 1) pe_int) pa_nil))) pa_nil)) (pg_name (i := 3) sc_law_rising.nd rfl (by first | exact Or.inl rfl | exact Or.inr rfl)) (pss_one (ps_dput hu (pv 2) (pe_call h__law_key.ok (hr.mono (by first | decide | (show _ ≤ 3 + _; omega))) (by rfl) h__law_key.mg h__law_key.kp h__law_key.b .nil pass0 (pa_cons (pv 0) pa_nil)) pe_bl rfl)))
      (pss_one (ps_ret (pe_tupleOf (by rfl) T.tuple (pe_callB (show CallR _ _ rSortDI from call_sortedDI rfl) (by rfl) T.sorted (by decide +kernel) (pa_cons (pv 2) pa_nil))))))), ?_⟩
  rintro as M R hl ⟨l, b, m, rfl, hm, h0, k⟩
  try simp only [cxK]
  show SS K _ [some (.m l), some (.d (.int m)), none, none] M _
  repeat walk_at "v"
  refine ee_dnewM fun lf hlf => ?_
  have hne : l ≠ lf := by
    rintro rfl
    obtain ⟨ns, t, l2, h1, _⟩ := h0
    rw [hlf] at h1
    cases h1
  have hp0 : PenOk (b + 31) (updM M lf (.dct [])) l := by
    obtain ⟨ns, t, l2, h1, h2⟩ := h0
    exact ⟨ns, t, l2, (updM_ne hne).trans h1, h2⟩
  repeat walk_at "v"
  refine ss_seq (ss_for (ei_r1 ?_))
  repeat walk_at "v"
  refine ⟨rfl, l, b + 30, m + 1, rfl, by omega, hp0, fun r M1 a1 b1 h1 n1 => ?_⟩
  repeat walk_at "v"
  refine ⟨by omega, ?_⟩
  have hlen : ((upto r.toNat 0).map AV.d).length = r.toNat := by simp [upto]
  refine ⟨fun i e M2 => (∃ o, e = [some (.m l), some (.d (.int m)), some (.m lf), o]) ∧ i ≤ r.toNat ∧ ∃ (kvs : List (Key × AV)) (ks : List Int), M2 lf = some (.dct kvs) ∧ kvs.map (·.1) = ks.map Sum.inl ∧ ks.Nodup ∧ (∀ i ∈ ks, isKey (.int i) = true) ∧ ks.length ≤ i ∧
    PenOk (b + 6 * (5 - i)) M2 l ∧ ∀ a, a ≠ l → a ≠ lf → M2 a = M a, ?_, fun _ _ _ _ => trivial, ?_, ?_⟩
  · refine ⟨⟨none, rfl⟩, Nat.zero_le _, [], [], ?_, rfl, List.nodup_nil, fun _ h => (nomatch h), Nat.le_refl _, h1.less (by omega), fun a ha hb => ?_⟩
    · rw [n1 lf (Ne.symm hne), updM_same]
    · rw [n1 a ha, updM_ne hb]
  · rintro i a e M2 ha ⟨⟨o, rfl⟩, hi, kvs, ks, hk1, hk2, hk3, hk4, hk5, hk6, hk7⟩
    have hi2 : i < r.toNat := by
      have := (List.getElem?_eq_some_iff.mp ha).1
      omega
    refine sg_name ?_
    show SS K _ [some (.m l), some (.d (.int m)), some (.m lf), some a] M2 _
    refine ss_dputI ?_
    repeat walk_at "v"
    refine ⟨rfl, l, b + 6 * (5 - (i + 1)), rfl, hk6.less (by omega), fun x M3 hx h3 n3 => ?_⟩
    have hlk : kvs.length = ks.length := by
      have := congrArg List.length hk2
      simpa using this
    have e3 : M3 lf = some (.dct kvs) := (n3 lf (Ne.symm hne)).trans hk1
    refine ⟨kvs, x, rfl, e3, by omega, ⟨_, rfl⟩, hi2, putA kvs (.inl x) (.d (.bool true)), if x ∈ ks then ks else ks ++ [x], updM_same, putA_keys hk2 x _, ?_, ?_, ?_, ?_, ?_⟩
    · split
      · exact hk3
      · rename_i hx'
        exact List.nodup_append.mpr ⟨hk3, (by simp), fun a ha b hb => by
          have : b = x := by simpa using hb
          subst this
          rintro rfl
          exact hx' ha⟩
    · intro j hj
      split at hj
      · exact hk4 j hj
      · rcases List.mem_append.mp hj with h | h
        · exact hk4 j h
        · have : j = x := by simpa using h
          subst this
          exact hx
    · split
      · omega
      · simp; omega
    · obtain ⟨ns, t, l2, q1, q2⟩ := h3
      exact ⟨ns, t, l2, (updM_ne hne).trans q1, q2⟩
    · intro a ha hb
      rw [updM_ne hb, n3 a ha]
      exact hk7 a ha hb
  · rintro e M2 ⟨⟨o, rfl⟩, _, kvs, ks, hk1, hk2, hk3, hk4, hk5, hk6, hk7⟩
    rw [hlen] at hk5
    repeat walk_at "v"
    refine ee_tupleOf ?_
    repeat walk_at "v"
    refine rc_sortDI hk1 hk2 (by omega) fun ys hp hs => ?_
    refine .inl ⟨_, .d _, ?_⟩
    have hd : SubM (dropM M2 lf) M2 := fun a o h => by
      unfold dropM at h
      split at h
      · cases h
      · exact h
    refine ⟨_, _, .sub hd, k ys _ ⟨by rw [hp.length_eq]; omega, asc_of hs (hp.nodup_iff.mpr hk3), fun i hi => hk4 i (hp.mem_iff.mp hi)⟩ ?_ ?_⟩
    · obtain ⟨ns, t, l2, q1, q2⟩ := hk6.less (b' := b) (by omega)
      exact ⟨ns, t, l2, by unfold dropM; rw [if_neg hne]; exact q1, q2⟩
    · intro a ha
      unfold dropM
      split
      · rename_i z; rw [z, hlf]
      · rename_i z; exact hk7 a ha z
end K49

set_option Elab.async false
set_option linter.all false
set_option maxRecDepth 100000
set_option maxHeartbeats 4000000
namespace K49
open PySem PySem.Spec PyProof.Rows L2 DL
variable {P : Program} {w : World} {K : PySem.W.Frag} {mg : Str → Option Value} {base : Heap}
local macro_rules | `(tactic| walk_at "v") => `(tactic| first
  | (with_reducible refine ssq_asg ?_) | (with_reducible refine ssq_drop ?_) | (with_reducible refine ssq_dput ?_) | (with_reducible refine ssq_par ?_) | (with_reducible refine ss_asg ?_) | (with_reducible refine sg_name ?_) | (with_reducible refine ss_ret ?_) | (with_reducible refine ss_next ?_) | (with_reducible refine ss_dput ?_) | (with_reducible refine ss_drop ?_)
  | (with_reducible refine et_test ?_) | (with_reducible refine et_B ?_) | (with_reducible refine et_not ?_) | (with_reducible refine et_and ?_) | (with_reducible refine et_or ?_) | (with_reducible refine et_ifE ?_)
  | (with_reducible refine ee_andV ?_) | (with_reducible refine ee_orV ?_) | (with_reducible refine ee_notV ?_) | (with_reducible refine ee_chain ?_)
  | (with_reducible refine ee_op ?_) | ((with_reducible refine ee_var (a := ?a1) ?h1 ?_); (case h1 => exact rfl)) | (with_reducible refine ee_int ?_) | (with_reducible refine ee_str ?_) | (with_reducible refine ee_bl ?_) | (with_reducible refine ee_non ?_) | (with_reducible refine ee_ty ?_)
  | (with_reducible refine ee_dget ?_) | (with_reducible refine ee_cb ?_) | (with_reducible refine ea_cons ?_) | (with_reducible refine ea_nil ?_)
  | ((with_reducible refine ee_call ?_)) | (with_reducible refine ee_revT ?_) | (with_reducible refine ee_sl ?_) | (with_reducible refine eo_none ?_) | (with_reducible refine eo_some ?_) | (with_reducible refine rs_tup ?_)
  | (with_reducible refine rr_add ?_) | (with_reducible refine rr_sub ?_) | (with_reducible refine rr_lt ?_) | (with_reducible refine rr_le ?_) | (with_reducible refine rr_gt ?_) | (with_reducible refine rr_ge ?_) | (with_reducible refine rr_eqI ?_) | (with_reducible refine rr_neI ?_) | (with_reducible refine rr_eqStr ?_) | (with_reducible refine rr_neStr ?_)
  | (with_reducible refine rr_eqSS ?_) | (with_reducible refine rr_eqS0T ?_)
  | ((with_reducible refine rr_mod ?h1 ?_); (case h1 => omega)) | ((with_reducible refine rr_pow ?h1 ?_); (case h1 => (refine ⟨by omega, by omega, by omega⟩)))
  | ((with_reducible refine rr_mul ?h1 ?_); (case h1 => (first | exact .inl ⟨by omega, by omega⟩ | exact .inr ⟨by omega, by omega⟩)))
  | ((with_reducible refine rr_fdivW ?h1 ?_); (case h1 => exact cdivW (by omega) (by omega)))
  | (with_reducible refine rc_abs ?_) | (with_reducible refine rc_int_bl ?_) | (with_reducible refine ru_neg ?_) | (with_reducible refine ee_un ?_) | (with_reducible refine ee_if ?_) | (with_reducible refine rc_ord ?_) | (with_reducible refine rc_len_tup ?_)
  | (with_reducible refine rc_isi (kit_tup _) (.d _) ?_) | (with_reducible refine rc_isi (kit_str _) (.d _) ?_) | (with_reducible refine rc_isi (kit_int _) (.d _) ?_) | (with_reducible refine rc_isi (kit_bool _) (.d _) ?_) | (with_reducible refine rc_isi (kit_list _) (.d _) ?_)
  | (with_reducible refine tt ?_) | (with_reducible refine ff ?_) | (with_reducible refine ttN ?_) | (with_reducible refine ffN ?_)
  | (with_reducible refine et_yes ?_) | (with_reducible refine rr_isN ?_) | (with_reducible refine rr_notN ?_) | ((with_reducible refine rr_at (d := ?d1) ?h0 ?h1 ?_); (case h0 => decide); (case h1 => exact rfl)) | ((with_reducible refine rr_atL (d := ?d1) ?h0 ?h1 ?_); (case h0 => decide); (case h1 => exact rfl))
  | (with_reducible refine ee_tup ?_) | (with_reducible refine ee_lst ?_)
  | (with_reducible refine ⟨_, rfl, ?_⟩)
  | (with_reducible refine row0 ?_) | (with_reducible refine row1 ?_) | (with_reducible refine row2 ?_) | (with_reducible refine row3 ?_) | (with_reducible refine row4 ?_) | (with_reducible refine row5 ?_) | (with_reducible refine row6 ?_) | (with_reducible refine row7 ?_) | (with_reducible refine row8 ?_) | (with_reducible refine row9 ?_) | (with_reducible refine row10 ?_) | (with_reducible refine row11 ?_) | (with_reducible refine row12 ?_) | (with_reducible refine row13 ?_) | (with_reducible refine row14 ?_) | (with_reducible refine row15 ?_) | (with_reducible refine row16 ?_) | (with_reducible refine row17 ?_) | (with_reducible refine row18 ?_) | (with_reducible refine row19 ?_) | (with_reducible refine row20 ?_))
theorem cut63 (ns : List Int) : (cutL ns none (some 63)).length ≤ 63 := by
  unfold cutL
  rw [List.length_take, List.length_drop]
  simp only [HT.sIx]
  split <;> omega
-- slots: 0:_law_script
abbrev s_law_pen : Stmt := top 24
theorem sc_law_pen : FnScope ["_law_script"] ["_law_script"] (defScope s_law_pen) := ⟨rfl, rfl, rfl, by decide +kernel, rfl, by decide +kernel, by decide +kernel⟩
def S_pen : SpD := fun as M R => ∃ ns a, as = [asScript ns a K] ∧ ∀ l, M l = none → R (.m l) (updM M l (.lst (pen (cutL ns none (some 63)) 0 0)))
theorem ok__law_pen {f : Addr} {fd : FuncData} (Fn : Fun K "_law_pen" "_law_pen" s_law_pen f fd) (T : Bt mg) : FnOk P w K mg base CX0 1 f fd ["_law_script"] (toSp K 1 (S_pen (K := K))) := by
  refine def_ok Fn sc_law_pen (fun cdv A outer s H E hr => ?_)
  refine ⟨_, (pss_one (ps_ret (pe_lst (pa_cons (pe_callTy (show CallR _ _ (fun xs H Q => ∃ p ys, xs = [.ref p] ∧ (SqL K H p ys ∨ SqT K H p ys) ∧ ∀ l, H l = none → Q (.ref l) (upd H l (.lst ys))) from call_list_of) (by rfl) T.list (by decide +kernel) (pa_cons (pe_slice (show SlR _ (rSlL K) from sl_list) (pv 0) po_none (po_some pe_int)) pa_nil)) (pa_cons pe_int (pa_cons pe_int pa_nil)))))), ?_⟩
  rintro as M R hl ⟨ns, a, rfl, k⟩
  try simp only [cxK]
  show SS K _ [some (asScript ns a K)] M _
  refine ss_ret (ee_lstM ?_)
  repeat walk_at "v"
  refine rs_script ?_
  repeat walk_at "v"
  refine rc_listL (.d _) ?_
  repeat walk_at "v"
  refine ⟨by simp, fun l hl => ?_⟩
  exact fin_d (k l hl)
end K49

set_option Elab.async false
set_option linter.all false
set_option maxRecDepth 100000
set_option maxHeartbeats 4000000
namespace K49
open PySem PySem.Spec PyProof.Rows L2 DL
/-! ### what is drawn is small -/
theorem small_of {x : PyData} (h : mass x ≤ 10000) : Small x := by
  refine ⟨fun z e => ?_, fun xs e => ?_⟩
  · subst e; simp only [mass] at h; omega
  · subst e
    have := massAll_len xs
    simp only [mass] at h; omega
theorem tidy_of {x : PyData} (h : mass x ≤ 10000) : Tidy x := by
  refine ⟨fun xs e => (small_of h).2 xs e, fun xs y e hy => ?_⟩
  subst e
  have h1 := massAll_mem hy
  simp only [mass] at h
  refine ⟨small_of (by omega), fun zs e => ?_⟩
  subst e
  refine ⟨(small_of (x := .tuple zs) (by omega)).2 zs rfl, fun a h' hm => small_of ?_⟩
  have h2 := massAll_mem hm
  simp only [mass, massAll] at h1 h2
  omega
theorem Nice.tidy {m d : Nat} {x : PyData} (h : Nice m d x) (hm : m ≤ 10000) : Tidy x := tidy_of (Nat.le_trans h.m hm)
structure NiceAll (m d : Nat) (xs : List PyData) : Prop where
  f : fineAll xs = true
  m : massAll xs ≤ m
  d : PyData.depthAll xs ≤ d
theorem NiceAll.nil {d : Nat} : NiceAll 0 d [] := ⟨rfl, Nat.le_refl _, Nat.zero_le _⟩
theorem NiceAll.cons {a b d : Nat} {x : PyData} {xs : List PyData} (h : Nice a d x) (t : NiceAll b d xs) : NiceAll (a + b) d (x :: xs) := by
  refine ⟨by simp [fineAll, h.f, t.f], ?_, ?_⟩
  · have := h.m; have := t.m; simp only [massAll]; omega
  · have := h.d; have := t.d; simp only [PyData.depthAll]; omega
theorem depthAll_app (xs ys : List PyData) : PyData.depthAll (xs ++ ys) = max (PyData.depthAll xs) (PyData.depthAll ys) := by
  induction xs with
  | nil => simp [PyData.depthAll]
  | cons x xs ih => simp only [List.cons_append, PyData.depthAll, ih]; omega
theorem NiceAll.app {a b d : Nat} {xs ys : List PyData} (h : NiceAll a d xs) (t : NiceAll b d ys) : NiceAll (a + b) d (xs ++ ys) := by
  refine ⟨by simp [fineAll_app, h.f, t.f], ?_, ?_⟩
  · have := h.m; have := t.m; rw [massAll_app]; omega
  · have := h.d; have := t.d; rw [depthAll_app]; omega
theorem NiceAll.mono {a b d e : Nat} {xs : List PyData} (h : NiceAll a d xs) (ha : a ≤ b) (hd : d ≤ e) : NiceAll b e xs := ⟨h.f, Nat.le_trans h.m ha, Nat.le_trans h.d hd⟩
theorem NiceAll.tup {a d : Nat} {xs : List PyData} (h : NiceAll a d xs) : Nice (a + 1) (d + 1) (.tuple xs) := by
  refine ⟨by simp [fine, h.f], ?_, ?_⟩
  · have := h.m; simp only [mass]; omega
  · have := h.d; simp only [PyData.depth]; omega
theorem NiceAll.lst {a d : Nat} {xs : List PyData} (h : NiceAll a d xs) : Nice (a + 1) (d + 1) (.list xs) := by
  refine ⟨by simp [fine, h.f], ?_, ?_⟩
  · have := h.m; simp only [mass]; omega
  · have := h.d; simp only [PyData.depth]; omega
theorem Nice.parts {a d : Nat} {xs : List PyData} (h : Nice a (d + 1) (.tuple xs)) : NiceAll (a - 1) d xs := by
  refine ⟨by simpa [fine] using h.f, ?_, ?_⟩
  · have := h.m; simp only [mass] at this; omega
  · have := h.d; simp only [PyData.depth] at this; omega
theorem NiceAll.each {a d k : Nat} {xs : List PyData} (h : ∀ x ∈ xs, Nice a d x) (hk : xs.length ≤ k) : NiceAll (a * k) d xs := by
  induction xs generalizing k with
  | nil => exact NiceAll.nil.mono (Nat.zero_le _) (Nat.le_refl _)
  | cons x xs ih =>
    match k, hk with
    | k + 1, hk =>
      have := NiceAll.cons (h x List.mem_cons_self) (ih (k := k) (fun y hy => h y (List.mem_cons_of_mem _ hy)) (by simpa using hk))
      exact this.mono (by rw [Nat.mul_succ]; omega) (Nat.le_refl _)
theorem ten60 : (10 : Nat) ^ 60 = 1000000000000000000000000000000000000000000000000000000000000 := by decide
theorem nice_int {i : Int} (h1 : -100000000000000000000000000000000000000000 ≤ i) (h2 : i ≤ 100000000000000000000000000000000000000000) : Nice 1 1 (.int i) := by
  refine ⟨?_, by simp [mass], by simp [PyData.depth]⟩
  simp only [fine, ten60, decide_eq_true_eq]
  omega
theorem nice_non : Nice 1 1 .none := ⟨rfl, by simp [mass], by simp [PyData.depth]⟩
theorem nice_bool (b : Bool) : Nice 1 1 (.bool b) := ⟨rfl, by simp [mass], by simp [PyData.depth]⟩
theorem okSign_lt {c : Nat} (h : okSign c = true) : c < 1114112 := by
  simp only [okSign, Bool.and_eq_true, decide_eq_true_eq] at h
  omega
theorem nice_text {lo : Int} {z : Str} (h : okText lo 8 (.str z) = true) : Nice 9 1 (.str z) := by
  simp only [okText, Bool.and_eq_true, decide_eq_true_eq, List.all_eq_true] at h
  refine ⟨?_, ?_, by simp [PyData.depth]⟩
  · simp only [fine, List.all_eq_true, decide_eq_true_eq]
    exact fun c hc => okSign_lt (h.2 c hc)
  · simp only [mass]; omega
theorem nice_key {i : Int} (h : isKey (.int i) = true) : Nice 1 1 (.int i) := by
  simp only [isKey, Bool.and_eq_true, decide_eq_true_eq] at h
  exact nice_int (by omega) (by omega)
/-- an image, as it is drawn -/
structure Img (x : PyData) : Prop where
  ok : imgD x = true
  nice : Nice 100 5 x
structure Pg (x : PyData) : Prop where
  ok : isNum x = true
  nice : Nice 1 1 x
theorem pg_of {i : Int} (h0 : 0 ≤ i) (h1 : i ≤ 100000000000000000000) : Pg (.int i) := ⟨by simp [isNum, h0], nice_int (by omega) (by omega)⟩
structure Rt (x : PyData) : Prop where
  ok : linkD x = true
  nice : Nice 1 1 x
theorem Pg.rt {x : PyData} (h : Pg x) : Rt x := ⟨by simp [linkD, h.ok], h.nice⟩
theorem rt_non : Rt .none := ⟨rfl, nice_non⟩
theorem nice_word {z : Str} {n : Nat} (h : n ≤ 5) (hz : z.length = n := by decide) (hf : fine (.str z) = true := by decide) : Nice 6 1 (.str z) := ⟨hf, by simp only [mass]; omega, by simp [PyData.depth]⟩
theorem img_head {a b : PyData} (ha : Pg a) (hb : Pg b) : Img (.tuple [.str "head", a, b]) := by
  refine ⟨by simp [imgD, partsD, ha.ok, hb.ok], ?_⟩
  exact ((NiceAll.cons (nice_word (n := 4) (by decide)) (NiceAll.cons ha.nice (NiceAll.cons hb.nice NiceAll.nil))).tup).mono (by decide) (by decide)
theorem img_free : Img (.tuple [.str "free"]) := by
  refine ⟨by decide, ?_⟩
  exact ((NiceAll.cons (nice_word (n := 4) (by decide)) NiceAll.nil).tup).mono (by decide) (by decide)
theorem img_piece {z : Str} {r : PyData} (hz : okText 1 8 (.str z) = true) (hr : Rt r) : Img (.tuple [.str "piece", .str z, r]) := by
  refine ⟨?_, ((NiceAll.cons (nice_word (n := 5) (by decide)) (NiceAll.cons (nice_text hz) (NiceAll.cons hr.nice NiceAll.nil))).tup).mono (by decide) (by decide)⟩
  simp only [imgD, partsD]
  rw [hz, hr.ok]
  have e1 : ((Str.ofString "piece" : Str) == Str.ofString "head") = false := by decide
  have e2 : ((Str.ofString "piece" : Str) == Str.ofString "leaf") = false := by decide
  have e3 : ((Str.ofString "piece" : Str) == Str.ofString "inner") = false := by decide
  simp [e1, e2, e3]
theorem ints_map (ns : List Int) : intsOf (ns.map PyData.int) = ns := by
  induction ns with
  | nil => rfl
  | cons n ns ih =>
    simp only [intsOf, List.map_cons, List.filterMap_cons] at ih ⊢
    rw [ih]
theorem img_space {a b : PyData} {ns : List Int} (ha : Pg a) (hb : Pg b) (hn : ∀ i ∈ ns, 0 ≤ i ∧ i ≤ 1000) (hl : ns.length ≤ 6) (hs : ascI ns = true) : Img (.tuple [.str "space", a, .tuple (ns.map PyData.int), b]) := by
  have hN : NiceAll (1 * 6) 1 (ns.map PyData.int) := NiceAll.each (fun x hx => by
    obtain ⟨i, hi, rfl⟩ := List.mem_map.mp hx
    have := hn i hi
    exact nice_int (by omega) (by omega)) (by simpa using hl)
  refine ⟨?_, ((NiceAll.cons ((nice_word (n := 5) (by decide)).mono (Nat.le_refl _) (by decide : 1 ≤ 2)) (NiceAll.cons (ha.nice.mono (Nat.le_refl _) (by decide)) (NiceAll.cons hN.tup (NiceAll.cons (hb.nice.mono (Nat.le_refl _) (by decide)) NiceAll.nil)))).tup).mono (by decide) (by decide)⟩
  have a1 : (ns.map PyData.int).all isNum = true := by
    rw [List.all_eq_true]
    intro x hx
    obtain ⟨i, hi, rfl⟩ := List.mem_map.mp hx
    simp [isNum, (hn i hi).1]
  simp only [imgD, partsD, ha.ok, hb.ok, areNums, ascD]
  rw [ints_map, hs, a1]
  rfl
theorem img_inner {ns : List Int} {ps : List PyData} (hk : KeysIn 5 ns) (h0 : ns ≠ []) (hp : ∀ x ∈ ps, Pg x) (hl : ps.length = ns.length + 1) : Img (.tuple [.str "inner", .tuple (ns.map PyData.int), .tuple ps]) := by
  obtain ⟨k1, k2, k3⟩ := hk
  have hN : NiceAll (1 * 5) 1 (ns.map PyData.int) := NiceAll.each (fun x hx => by
    obtain ⟨i, hi, rfl⟩ := List.mem_map.mp hx
    exact nice_key (k3 i hi)) (by simp; omega)
  have hM : NiceAll (1 * 6) 1 ps := NiceAll.each (fun x hx => (hp x hx).nice) (by omega)
  refine ⟨?_, ((NiceAll.cons ((nice_word (n := 5) (by decide)).mono (Nat.le_refl _) (by decide : 1 ≤ 2)) (NiceAll.cons hN.tup (NiceAll.cons hM.tup NiceAll.nil))).tup).mono (by decide) (by decide)⟩
  have e1 : sepsD (.tuple (ns.map PyData.int)) = true := by
    have a1 : (ns.map PyData.int).all isKey = true := by
      rw [List.all_eq_true]
      intro x hx
      obtain ⟨i, hi, rfl⟩ := List.mem_map.mp hx
      exact k3 i hi
    have a2 : (ns.map PyData.int).isEmpty = false := by
      cases ns with
      | nil => exact absurd rfl h0
      | cons a b => rfl
    simp only [sepsD]
    rw [ints_map, k2, a1, a2]
    rfl
  have e2 : areNums (.tuple ps) = true := by
    simp only [areNums, List.all_eq_true]
    exact fun x hx => (hp x hx).ok
  have e3 : ((Str.ofString "inner" : Str) == Str.ofString "head") = false := by decide
  have e4 : ((Str.ofString "inner" : Str) == Str.ofString "leaf") = false := by decide
  simp [imgD, partsD, e1, e2, e3, e4, lenD, hl]
/-- a record, as it is drawn -/
structure Hd (x : PyData) : Prop where
  ok : heldD x = true
  nice : Nice 12 2 x
theorem hd_text {z : Str} (h : okText 0 8 (.str z) = true) : Hd (.str z) := ⟨h, (nice_text h).mono (by decide) (by decide)⟩
theorem hd_far {p : PyData} {i : Int} (hp : Pg p) (h0 : 9 ≤ i) (h1 : i ≤ 40) : Hd (.tuple [.str "at", p, .int i]) := by
  refine ⟨?_, ((NiceAll.cons (nice_word (n := 2) (by decide)) (NiceAll.cons hp.nice (NiceAll.cons (nice_int (i := i) (by omega) (by omega)) NiceAll.nil))).tup).mono (by decide) (by decide)⟩
  simp only [heldD, isThe, hp.ok, below, Bool.and_eq_true, decide_eq_true_eq]
  refine ⟨⟨⟨by decide, trivial⟩, by omega, by omega⟩, by omega⟩
def rowsOf (rs : List (Int × PyData)) : List PyData := rs.map fun kh => .tuple [.int kh.1, kh.2]
theorem keys_rows (rs : List (Int × PyData)) : intsOf (keysOf (rowsOf rs)) = rs.map (·.1) := by
  induction rs with
  | nil => rfl
  | cons r rs ih =>
    simp only [rowsOf, keysOf, intsOf, List.map_cons, List.filterMap_cons] at ih ⊢
    rw [ih]
theorem img_leaf {rs : List (Int × PyData)} {r : PyData} (hk : KeysIn 5 (rs.map (·.1))) (hh : ∀ kh ∈ rs, Hd kh.2) (hr : Rt r) : Img (.tuple [.str "leaf", .tuple (rowsOf rs), r]) := by
  obtain ⟨k1, k2, k3⟩ := hk
  have k3' : ∀ kh ∈ rs, isKey (.int kh.1) = true := fun kh h => k3 _ (List.mem_map.mpr ⟨kh, h, rfl⟩)
  have hN : NiceAll (14 * 5) 3 (rowsOf rs) := NiceAll.each (fun x hx => by
    obtain ⟨kh, hi, rfl⟩ := List.mem_map.mp hx
    exact (NiceAll.cons ((nice_key (k3' kh hi)).mono (Nat.le_refl _) (by decide : 1 ≤ 2)) (NiceAll.cons (hh kh hi).nice NiceAll.nil)).tup.mono (by decide) (by decide)) (by simp [rowsOf] at k1 ⊢; omega)
  refine ⟨?_, ((NiceAll.cons ((nice_word (n := 4) (by decide)).mono (Nat.le_refl _) (by decide : 1 ≤ 4)) (NiceAll.cons hN.tup (NiceAll.cons (hr.nice.mono (Nat.le_refl _) (by decide)) NiceAll.nil))).tup).mono (by decide) (by decide)⟩
  have e1 : recsD (.tuple (rowsOf rs)) = true := by
    simp only [recsD, keys_rows, k2, Bool.and_true, List.all_eq_true]
    intro x hx
    obtain ⟨kh, hi, rfl⟩ := List.mem_map.mp hx
    simp [recD, k3' kh hi, (hh kh hi).ok]
  simp only [imgD, partsD]
  rw [e1, hr.ok]
  have e3 : ((Str.ofString "leaf" : Str) == Str.ofString "head") = false := by decide
  simp [e3]
end K49

set_option Elab.async false
set_option linter.all false
set_option maxRecDepth 100000
set_option maxHeartbeats 4000000
namespace K49
open PySem PySem.Spec PyProof.Rows L2 DL
variable {P : Program} {w : World} {K : PySem.W.Frag} {mg : Str → Option Value} {base : Heap}
local macro_rules | `(tactic| walk_at "v") => `(tactic| first
  | (with_reducible refine ssq_asg ?_) | (with_reducible refine ssq_drop ?_) | (with_reducible refine ssq_dput ?_) | (with_reducible refine ssq_par ?_) | (with_reducible refine ss_asg ?_) | (with_reducible refine sg_name ?_) | (with_reducible refine ss_ret ?_) | (with_reducible refine ss_next ?_) | (with_reducible refine ss_dput ?_) | (with_reducible refine ss_drop ?_)
  | (with_reducible refine et_test ?_) | (with_reducible refine et_B ?_) | (with_reducible refine et_not ?_) | (with_reducible refine et_and ?_) | (with_reducible refine et_or ?_) | (with_reducible refine et_ifE ?_)
  | (with_reducible refine ee_andV ?_) | (with_reducible refine ee_orV ?_) | (with_reducible refine ee_notV ?_) | (with_reducible refine ee_chain ?_)
  | (with_reducible refine ee_op ?_) | ((with_reducible refine ee_var (a := ?a1) ?h1 ?_); (case h1 => exact rfl)) | (with_reducible refine ee_int ?_) | (with_reducible refine ee_str ?_) | (with_reducible refine ee_bl ?_) | (with_reducible refine ee_non ?_) | (with_reducible refine ee_ty ?_)
  | (with_reducible refine ee_dget ?_) | (with_reducible refine ee_cb ?_) | (with_reducible refine ea_cons ?_) | (with_reducible refine ea_nil ?_)
  | ((with_reducible refine ee_call ?_)) | (with_reducible refine ee_revT ?_) | (with_reducible refine ee_sl ?_) | (with_reducible refine eo_none ?_) | (with_reducible refine eo_some ?_) | (with_reducible refine rs_tup ?_)
  | (with_reducible refine rr_add ?_) | (with_reducible refine rr_sub ?_) | (with_reducible refine rr_lt ?_) | (with_reducible refine rr_le ?_) | (with_reducible refine rr_gt ?_) | (with_reducible refine rr_ge ?_) | (with_reducible refine rr_eqI ?_) | (with_reducible refine rr_neI ?_) | (with_reducible refine rr_eqStr ?_) | (with_reducible refine rr_neStr ?_)
  | (with_reducible refine rr_eqSS ?_) | (with_reducible refine rr_eqS0T ?_)
  | ((with_reducible refine rr_mod ?h1 ?_); (case h1 => omega)) | ((with_reducible refine rr_pow ?h1 ?_); (case h1 => (refine ⟨by omega, by omega, by omega⟩)))
  | ((with_reducible refine rr_mul ?h1 ?_); (case h1 => (first | exact .inl ⟨by omega, by omega⟩ | exact .inr ⟨by omega, by omega⟩)))
  | ((with_reducible refine rr_fdivW ?h1 ?_); (case h1 => exact cdivW (by omega) (by omega)))
  | (with_reducible refine rc_abs ?_) | (with_reducible refine rc_int_bl ?_) | (with_reducible refine ru_neg ?_) | (with_reducible refine ee_un ?_) | (with_reducible refine ee_if ?_) | (with_reducible refine rc_ord ?_) | (with_reducible refine rc_len_tup ?_)
  | (with_reducible refine rc_isi (kit_tup _) (.d _) ?_) | (with_reducible refine rc_isi (kit_str _) (.d _) ?_) | (with_reducible refine rc_isi (kit_int _) (.d _) ?_) | (with_reducible refine rc_isi (kit_bool _) (.d _) ?_) | (with_reducible refine rc_isi (kit_list _) (.d _) ?_)
  | (with_reducible refine tt ?_) | (with_reducible refine ff ?_) | (with_reducible refine ttN ?_) | (with_reducible refine ffN ?_)
  | (with_reducible refine et_yes ?_) | (with_reducible refine rr_isN ?_) | (with_reducible refine rr_notN ?_) | ((with_reducible refine rr_at (d := ?d1) ?h0 ?h1 ?_); (case h0 => decide); (case h1 => exact rfl)) | ((with_reducible refine rr_atL (d := ?d1) ?h0 ?h1 ?_); (case h0 => decide); (case h1 => exact rfl))
  | (with_reducible refine ee_tup ?_) | (with_reducible refine ee_lst ?_)
  | (with_reducible refine ⟨_, rfl, ?_⟩)
  | (with_reducible refine row0 ?_) | (with_reducible refine row1 ?_) | (with_reducible refine row2 ?_) | (with_reducible refine row3 ?_) | (with_reducible refine row4 ?_) | (with_reducible refine row5 ?_) | (with_reducible refine row6 ?_) | (with_reducible refine row7 ?_) | (with_reducible refine row8 ?_) | (with_reducible refine row9 ?_) | (with_reducible refine row10 ?_) | (with_reducible refine row11 ?_) | (with_reducible refine row12 ?_) | (with_reducible refine row13 ?_) | (with_reducible refine row14 ?_) | (with_reducible refine row15 ?_) | (with_reducible refine row16 ?_) | (with_reducible refine row17 ?_) | (with_reducible refine row18 ?_) | (with_reducible refine row19 ?_) | (with_reducible refine row20 ?_))
def freeI (n : Nat) : List Int := (List.range n).map fun (k : Nat) => 3 * (k : Int) + 2
def freeD : PyData → Option PyData
  | .int k => some (.int (3 * k + 2))
  | _ => none
theorem frees (n : Nat) : (upto n 0).filterMap freeD = (freeI n).map PyData.int := by
  have e : (freeD ∘ fun (i : Nat) => PyData.int (0 + (i : Int))) = (some ∘ fun (k : Nat) => PyData.int (3 * (k : Int) + 2)) := by
    funext k
    simp [freeD]
  unfold upto freeI
  rw [List.filterMap_map, e, List.filterMap_eq_map, List.map_map]
  rfl
theorem free_in {n : Nat} (h : n ≤ 6) : ∀ i ∈ freeI n, 0 ≤ i ∧ i ≤ 1000 := by
  intro i hi
  obtain ⟨k, hk, rfl⟩ := List.mem_map.mp hi
  have := List.mem_range.mp hk
  omega
theorem free_asc (n : Nat) : ascI (freeI n) = true := by
  rw [ascI_iff]
  intro j x y hx hy
  simp only [freeI, List.getElem?_map, Option.map_eq_some_iff] at hx hy
  obtain ⟨a, ha, rfl⟩ := hx
  obtain ⟨c, hc, rfl⟩ := hy
  rw [List.getElem?_range (by have := (List.getElem?_eq_some_iff.mp ha).1; simpa using this)] at ha
  rw [List.getElem?_range (by have := (List.getElem?_eq_some_iff.mp hc).1; simpa using this)] at hc
  cases ha; cases hc
  omega
theorem eqv_nilT (xs : List PyData) : PyData.eqv (.tuple xs) (.tuple []) = xs.isEmpty := by
  cases xs <;> simp [PyData.eqv, PyData.eqvAll]
-- slots: 0:_law_pen_here 1:_law_way 2:_law_right_here 3:_law_free 4:_law_rows 5:_law_key_here 6:_law_separators 7:_law_far 8:_law_k
abbrev s_law_image : Stmt := top 38
theorem sc_law_image : FnScope ["_law_pen_here", "_law_way", "_law_right_here", "_law_free", "_law_rows", "_law_key_here", "_law_separators", "_law_far", "_law_k"] ["_law_pen_here"] (defScope s_law_image) := ⟨rfl, rfl, rfl, by decide +kernel, rfl, by decide +kernel, by decide +kernel⟩
def S_image : SpD := fun as M R => ∃ l b, as = [.m l] ∧ PenOk (b + 90) M l ∧ ∀ x M', Img x → PenOk b M' l → Near l M M' → R (.d x) M'
theorem ok__law_image {f : Addr} {fd : FuncData} (Fn : Fun K "_law_image" "_law_image" s_law_image f fd) (T : Bt mg) (h__law_draw : HDraw P w K mg base)
    (h__law_page : Has P w K mg base "_law_page" 2 ["_law_pen_here"] S_page) (h__law_short : Has P w K mg base "_law_short" 2 ["_law_pen_here", "_law_least"] S_short) (h__law_rising : Has P w K mg base "_law_rising" 3 ["_law_pen_here", "_law_most"] S_ascending) :
    FnOk P w K mg base CX0 4 f fd ["_law_pen_here"] (toSp K 1 S_image) := by
  refine def_ok Fn sc_law_image (fun cdv A outer s H E hr => ?_)
  have hu := hu_of hr
  refine ⟨_, (pss_cons (ps_par (i := 1) (j := 2) (by rfl) sc_law_image.nd rfl rfl (by decide) rfl rfl (pa_cons (pe_call h__law_draw.ok (hr.mono (by first | decide | (show _ ≤ 3 + _; omega))) (by rfl) h__law_draw.mg h__law_draw.kp h__law_draw.b .nil pass0 (pa_cons (pv 0) (pa_cons pe_int pa_nil))) (pa_cons (pe_ix (show IxR _ (rIx K) from ix_seq) (pe_lst (pa_cons pe_non (pa_cons (pe_call h__law_page.ok (hr.mono (by first | decide | (show _ ≤ 3 + _; omega))) (by rfl) h__law_page.mg h__law_page.kp h__law_page.b .nil pass0 (pa_cons (pv 0) pa_nil)) pa_nil))) (pe_call h__law_draw.ok (hr.mono (by first | decide | (show _ ≤ 3 + _; omega))) (by rfl) h__law_draw.mg h__law_draw.kp h__law_draw.b .nil pass0 (pa_cons (pv 0) (pa_cons pe_int pa_nil))) (fun _ _ => rfl)) pa_nil)) (by rfl))
      (pss_cons (ps_if (pt_cmpR op_eq (pv 1) pe_int (nomark _)) (pss_one (ps_ret (pe_tup (pa_cons pe_str (pa_cons (pe_call h__law_page.ok (hr.mono (by first | decide | (show _ ≤ 3 + _; omega))) (by rfl) h__law_page.mg h__law_page.kp h__law_page.b .nil pass0 (pa_cons (pv 0) pa_nil)) (pa_cons (pe_call h__law_page.ok (hr.mono (by first | decide | (show _ ≤ 3 + _; omega))) (by rfl) h__law_page.mg h__law_page.kp h__law_page.b .nil pass0 (pa_cons (pv 0) pa_nil)) pa_nil)))))) pss_nil)
      (pss_cons (ps_if (pt_cmpR op_eq (pv 1) pe_int (nomark _)) (pss_cons (ps_set (i := 3) sc_law_image.nd rfl (by first | exact Or.inl rfl | exact Or.inr rfl) (pe_tupleOf (by rfl) T.tuple (pe_lc (own := [("_law_k", 8)]) (g := (gName 8)) (tt := tYes) (by rfl) sc_law_image.nd (pi_range1 (by rfl) T.range (pa_cons (pe_call h__law_draw.ok (hr.mono (by first | decide | (show _ ≤ 3 + _; omega))) (by rfl) h__law_draw.mg h__law_draw.kp h__law_draw.b .nil pass0 (pa_cons (pv 0) (pa_cons pe_int pa_nil))) pa_nil)) (blkOk_by (own := [("_law_k", 8)]) (N := ["_law_pen_here", "_law_way", "_law_right_here", "_law_free", "_law_rows", "_law_key_here", "_law_separators", "_law_far", "_law_k"]) (sc := defScope s_law_image) (by decide +kernel)) (fun _ _ _ _ _ => (pg_name (i := 8) sc_law_image.nd rfl (by first | exact Or.inl rfl | exact Or.inr rfl))) (fun _ _ _ _ _ => pts_nil) (fun _ _ _ _ _ => (pe_op op_add (pe_op op_mul pe_int (pv 8)) pe_int)))))
      (pss_one (ps_ret (pe_tup (pa_cons pe_str (pa_cons (pe_call h__law_page.ok (hr.mono (by first | decide | (show _ ≤ 3 + _; omega))) (by rfl) h__law_page.mg h__law_page.kp h__law_page.b .nil pass0 (pa_cons (pv 0) pa_nil)) (pa_cons (pv 3) (pa_cons (pe_call h__law_page.ok (hr.mono (by first | decide | (show _ ≤ 3 + _; omega))) (by rfl) h__law_page.mg h__law_page.kp h__law_page.b .nil pass0 (pa_cons (pv 0) pa_nil)) pa_nil)))))))) pss_nil)
      (pss_cons (ps_if (pt_cmpR op_eq (pv 1) pe_int (nomark _)) (pss_cons (ps_set (i := 4) sc_law_image.nd rfl (by first | exact Or.inl rfl | exact Or.inr rfl) (pe_lst pa_nil))
      (pss_cons (ps_for PassesOwn.never rfl (pi_tup (pe_call h__law_rising.ok (hr.mono (by first | decide | (show _ ≤ 3 + _; omega))) (by rfl) h__law_rising.mg h__law_rising.kp h__law_rising.b .nil pass0 (pa_cons (pv 0) (pa_cons pe_int pa_nil)))) (pg_name (i := 5) sc_law_image.nd rfl (by first | exact Or.inl rfl | exact Or.inr rfl)) (pss_cons (ps_set (i := 7) sc_law_image.nd rfl (by first | exact Or.inl rfl | exact Or.inr rfl) (pe_tup (pa_cons pe_str (pa_cons (pe_call h__law_page.ok (hr.mono (by first | decide | (show _ ≤ 3 + _; omega))) (by rfl) h__law_page.mg h__law_page.kp h__law_page.b .nil pass0 (pa_cons (pv 0) pa_nil)) (pa_cons (pe_ix (show IxR _ (rIx K) from ix_seq) (pe_lst (pa_cons pe_int (pa_cons pe_int (pa_cons (pe_op op_add pe_int (pe_call h__law_draw.ok (hr.mono (by first | decide | (show _ ≤ 3 + _; omega))) (by rfl) h__law_draw.mg h__law_draw.kp h__law_draw.b .nil pass0 (pa_cons (pv 0) (pa_cons pe_int pa_nil)))) pa_nil)))) (pe_call h__law_draw.ok (hr.mono (by first | decide | (show _ ≤ 3 + _; omega))) (by rfl) h__law_draw.mg h__law_draw.kp h__law_draw.b .nil pass0 (pa_cons (pv 0) (pa_cons pe_int pa_nil))) (fun _ _ => rfl)) pa_nil)))))
      (pss_one (ps_expr (pe_bm PySem.F.plainAttrs_list PySem.F.slot_list_append PySem.F.type_list_append (mt_append) (pv 4) (pa_cons (pe_tup (pa_cons (pv 5) (pa_cons (pe_ix (show IxR _ (rIx K) from ix_seq) (pe_lst (pa_cons (pe_call h__law_short.ok (hr.mono (by first | decide | (show _ ≤ 3 + _; omega))) (by rfl) h__law_short.mg h__law_short.kp h__law_short.b .nil pass0 (pa_cons (pv 0) (pa_cons pe_int pa_nil))) (pa_cons (pv 7) pa_nil))) (pe_call h__law_draw.ok (hr.mono (by first | decide | (show _ ≤ 3 + _; omega))) (by rfl) h__law_draw.mg h__law_draw.kp h__law_draw.b .nil pass0 (pa_cons (pv 0) (pa_cons pe_int pa_nil))) (fun _ _ => rfl)) pa_nil))) pa_nil))))))
      (pss_one (ps_ret (pe_tup (pa_cons pe_str (pa_cons (pe_tupleOf (by rfl) T.tuple (pv 4)) (pa_cons (pv 2) pa_nil)))))))) pss_nil)
      (pss_cons (ps_if (pt_cmpR op_eq (pv 1) pe_int (nomark _)) (pss_cons (ps_set (i := 6) sc_law_image.nd rfl (by first | exact Or.inl rfl | exact Or.inr rfl) (pe_call h__law_rising.ok (hr.mono (by first | decide | (show _ ≤ 3 + _; omega))) (by rfl) h__law_rising.mg h__law_rising.kp h__law_rising.b .nil pass0 (pa_cons (pv 0) (pa_cons pe_int pa_nil))))
      (pss_cons (ps_set (i := 6) sc_law_image.nd rfl (by first | exact Or.inl rfl | exact Or.inr rfl) (pe_ifExp (pt_cmpR (show OpR _ _ (rNeD K) from op_neD hr.units) (pv 6) (pe_tup pa_nil) (nomark _)) (pv 6) (pe_tup (pa_cons pe_int pa_nil))))
      (pss_one (ps_ret (pe_tup (pa_cons pe_str (pa_cons (pv 6) (pa_cons (pe_tupleOf (by rfl) T.tuple (pe_lc (own := [("_law_k", 8)]) (g := (gName 8)) (tt := tYes) (by rfl) sc_law_image.nd (pi_range1 (by rfl) T.range (pa_cons (pe_op op_add (pe_callB (show CallR _ _ (fun xs H Q => ∃ x n, xs = [x] ∧ LenV K x H n ∧ Q (.int n) H) from call_len) (by rfl) T.len (by decide +kernel) (pa_cons (pv 6) pa_nil)) pe_int) pa_nil)) (blkOk_by (own := [("_law_k", 8)]) (N := ["_law_pen_here", "_law_way", "_law_right_here", "_law_free", "_law_rows", "_law_key_here", "_law_separators", "_law_far", "_law_k"]) (sc := defScope s_law_image) (by decide +kernel)) (fun _ _ _ _ _ => (pg_name (i := 8) sc_law_image.nd rfl (by first | exact Or.inl rfl | exact Or.inr rfl))) (fun _ _ _ _ _ => pts_nil) (fun _ _ _ _ _ => (pe_call h__law_page.ok (hr.mono (by first | decide | (show _ ≤ 3 + _; omega))) (by rfl) h__law_page.mg h__law_page.kp h__law_page.b .nil pass0 (pa_cons (pv 0) pa_nil))))) pa_nil)))))))) pss_nil)
      (pss_one (ps_ret (pe_ifExp (pt_cmpR op_eq (pv 1) pe_int (nomark _)) (pe_tup (pa_cons pe_str (pa_cons (pe_call h__law_short.ok (hr.mono (by first | decide | (show _ ≤ 3 + _; omega))) (by rfl) h__law_short.mg h__law_short.kp h__law_short.b .nil pass0 (pa_cons (pv 0) (pa_cons pe_int pa_nil))) (pa_cons (pv 2) pa_nil)))) (pe_tup (pa_cons pe_str pa_nil)))))))))), ?_⟩
  rintro as M R hl ⟨l, b, rfl, h0, k⟩
  try simp only [cxK]
  show SS K _ [some (.m l), none, none, none, none, none, none, none, none] M _
  refine ss_cut (fun e M3 => ∃ (way : Int) (x : PyData), e = [some (.m l), some (.d (.int way)), some (.d x), none, none, none, none, none, none] ∧ 0 ≤ way ∧ way < 6 ∧ Rt x ∧ PenOk (b + 85) M3 l ∧ Near l M M3) (ss_par ?_) ?_
  · repeat walk_at "v"
    refine ⟨rfl, l, b + 89, 6, rfl, by decide, h0, fun way M1 w1 w2 h1 n1 => ?_⟩
    repeat walk_at "v"
    refine ⟨rfl, l, b + 86, rfl, h1, fun pg M2 p1 p2 h2 n2 => ?_⟩
    repeat walk_at "v"
    refine ⟨rfl, l, b + 85, 2, rfl, by decide, h2, fun r3 M3 a3 b3 h3 n3 => ?_⟩
    have cases3 : r3 = 0 ∨ r3 = 1 := by omega
    have nn : Near l M M3 := (n1.trans n2).trans n3
    rcases cases3 with rfl | rfl
    · repeat walk_at "v"
      exact ⟨_, _, rfl, way, _, rfl, w1, w2, rt_non, h3, nn⟩
    · repeat walk_at "v"
      exact ⟨_, _, rfl, way, _, rfl, w1, w2, (pg_of p1 p2).rt, h3, nn⟩
  rintro e M3 ⟨way, x, rfl, w1, w2, hx, h3, n3⟩
  have tell : ∀ (R' : Bool → MH → Prop) (n : Int), True := fun _ _ => trivial
  refine ss_when (p := way = 0) (fun R k => by (repeat walk_at "v"); exact k) (fun hw => ?_) (fun hw0 => ?_)
  · repeat walk_at "v"
    refine ⟨rfl, l, b + 82, rfl, h3, fun p1 M4 a1 b1 h4 n4 => ?_⟩
    repeat walk_at "v"
    refine ⟨rfl, l, b + 79, rfl, h4, fun p2 M5 a2 b2 h5 n5 => ?_⟩
    repeat walk_at "v"
    exact fin_d (k _ M5 (img_head (pg_of a1 b1) (pg_of a2 b2)) (h5.less (by omega)) ((n3.trans n4).trans n5))
  refine ss_when (p := way = 1) (fun R k => by (repeat walk_at "v"); exact k) (fun hw => ?_) (fun hw1 => ?_)
  · repeat walk_at "v"
    refine ee_tupleOf ?_
    refine ee_lc (only_name (by simp)) (ei_r1 ?_)
    repeat walk_at "v"
    refine ⟨rfl, l, b + 84, 6, rfl, by decide, h3, fun n M4 a1 b1 h4 n4 => ?_⟩
    repeat walk_at "v"
    refine ⟨by omega, ?_⟩
    refine lc_map freeD trivial (fun y hy T' acc ty _ => ?_) ?_ (by simp [upto]; try omega)
    · obtain ⟨k', _, rfl⟩ := List.mem_map.mp hy
      repeat walk_at "v"
      exact ty _ rfl
    refine .inl ⟨_, .d _, ?_⟩
    repeat walk_at "v"
    refine ⟨rfl, l, b + 81, rfl, h4, fun p1 M5 a2 b2 h5 n5 => ?_⟩
    repeat walk_at "v"
    refine ⟨rfl, l, b + 78, rfl, h5, fun p2 M6 a3 b3 h6 n6 => ?_⟩
    repeat walk_at "v"
    rw [frees]
    exact fin_d (k _ M6 (img_space (pg_of a2 b2) (pg_of a3 b3) (free_in (by omega)) (by simp [freeI]; omega) (free_asc _)) (h6.less (by omega)) (((n3.trans n4).trans n5).trans n6))
  refine ss_when (p := way = 2) (fun R k => by (repeat walk_at "v"); exact k) (fun hw => ?_) (fun hw2 => ?_)
  · refine ssq_asg (ee_lstM ?_)
    repeat walk_at "v"
    refine ⟨by simp, fun lr hlr => ?_⟩
    have hne : l ≠ lr := by
      rintro rfl
      obtain ⟨ns, t, l2, q1, _⟩ := h3
      rw [hlr] at q1
      cases q1
    have hp0 : PenOk (b + 85) (updM M3 lr (.lst [])) l := by
      obtain ⟨ns, t, l2, q1, q2⟩ := h3
      exact ⟨ns, t, l2, (updM_ne hne).trans q1, q2⟩
    repeat walk_at "v"
    refine ss_seq (ss_for (ei_tup ?_))
    repeat walk_at "v"
    refine ⟨rfl, l, b + 54, 5, rfl, by decide, hp0, fun ns M4 hk h4 n4 => ?_⟩
    refine ⟨_, rfl, ?_⟩
    have hlen : ((ns.map PyData.int).map AV.d).length = ns.length := by simp
    have hn5 : ns.length ≤ 5 := by have := hk.1; omega
    refine ⟨fun i e M5 => (∃ o far, e = [some (.m l), some (.d (.int way)), some (.d x), none, some (.m lr), o, none, far, none]) ∧ i ≤ ns.length ∧ ∃ rs : List (Int × PyData), M5 lr = some (.lst ((rowsOf rs).map AV.d)) ∧ rs.map (·.1) = ns.take i ∧ (∀ kh ∈ rs, Hd kh.2) ∧ PenOk (b + 9 * (5 - i)) M5 l ∧ ∀ a, a ≠ l → a ≠ lr → M5 a = M a, ?_, fun _ _ _ _ => trivial, ?_, ?_⟩
    · refine ⟨⟨none, none, rfl⟩, Nat.zero_le _, [], ?_, rfl, fun _ h => (nomatch h), h4.less (by omega), fun a ha hb => ?_⟩
      · rw [n4 lr (Ne.symm hne), updM_same]; rfl
      · rw [n4 a ha, updM_ne hb, n3 a ha]
    · rintro i a e M5 ha ⟨⟨o, far, rfl⟩, hi, rs, q1, q2, q3, q4, q5⟩
      have hi2 : i < ns.length := by
        have := (List.getElem?_eq_some_iff.mp ha).1
        simpa using this
      obtain ⟨key, hkey, rfl⟩ : ∃ key, ns[i]? = some key ∧ a = .d (.int key) := by
        rw [List.getElem?_map, List.getElem?_map] at ha
        cases hx : ns[i]? with
        | none => rw [hx] at ha; cases ha
        | some key => rw [hx] at ha; cases ha; exact ⟨key, rfl, rfl⟩
      refine sg_name ?_
      refine ss_cut (fun e M8 => ∃ fr, Hd fr ∧ e = [some (.m l), some (.d (.int way)), some (.d x), none, some (.m lr), some (.d (.int key)), none, some (.d fr), none] ∧ PenOk (b + 9 * (5 - (i + 1)) + 4) M8 l ∧ Near l M5 M8) (ss_asg ?_) ?_
      · repeat walk_at "v"
        refine ⟨rfl, l, b + 9 * (5 - (i + 1)) + 6, rfl, q4.less (by omega), fun pg M6 p1 p2 h6 n6 => ?_⟩
        repeat walk_at "v"
        refine ⟨rfl, l, b + 9 * (5 - (i + 1)) + 5, 32, rfl, by decide, h6, fun r32 M7 a7 b7 h7 n7 => ?_⟩
        repeat walk_at "v"
        refine ⟨rfl, l, b + 9 * (5 - (i + 1)) + 4, 3, rfl, by decide, h7, fun r33 M8 a8 b8 h8 n8 => ?_⟩
        have cases33 : r33 = 0 ∨ r33 = 1 ∨ r33 = 2 := by omega
        rcases cases33 with rfl | rfl | rfl
        all_goals
          repeat walk_at "v"
          exact ⟨_, hd_far (pg_of p1 p2) (by omega) (by omega), rfl, h8, (n6.trans n7).trans n8⟩
      rintro e M8 ⟨fr, hfr, rfl, h8, n8⟩
      have q8 : M8 lr = some (.lst ((rowsOf rs).map AV.d)) := (n8 lr (Ne.symm hne)).trans q1
      have hrl : rs.length ≤ 5 := by
        have := congrArg List.length q2
        simp at this
        omega
      refine ss_drop (ee_append ?_)
      repeat walk_at "v"
      refine ⟨⟨_, q8⟩, ?_⟩
      repeat walk_at "v"
      refine ⟨rfl, l, b + 9 * (5 - (i + 1)) + 1, 0, rfl, by decide, h8, fun z M9 hz h9 n9 => ?_⟩
      repeat walk_at "v"
      refine ⟨rfl, l, b + 9 * (5 - (i + 1)), 2, rfl, by decide, h9, fun r2 M10 a10 b10 h10 n10 => ?_⟩
      have q10 : M10 lr = some (.lst ((rowsOf rs).map AV.d)) := (n10 lr (Ne.symm hne)).trans ((n9 lr (Ne.symm hne)).trans q8)
      have done : ∀ h : PyData, Hd h → ∃ rs' : List (Int × PyData), updM M10 lr (.lst ((rowsOf rs).map AV.d ++ [.d (.tuple [.int key, h])])) lr = some (.lst ((rowsOf rs').map AV.d)) ∧ rs'.map (·.1) = ns.take (i + 1) ∧ (∀ kh ∈ rs', Hd kh.2) ∧
          PenOk (b + 9 * (5 - (i + 1))) (updM M10 lr (.lst ((rowsOf rs).map AV.d ++ [.d (.tuple [.int key, h])]))) l ∧ ∀ a, a ≠ l → a ≠ lr → updM M10 lr (.lst ((rowsOf rs).map AV.d ++ [.d (.tuple [.int key, h])])) a = M a := by
        intro h hh
        refine ⟨rs ++ [(key, h)], ?_, ?_, ?_, ?_, ?_⟩
        · rw [updM_same]; simp [rowsOf]
        · rw [List.map_append, q2, List.take_add_one, hkey]; rfl
        · intro kh hk'
          rcases List.mem_append.mp hk' with hk' | hk'
          · exact q3 kh hk'
          · have : kh = (key, h) := by simpa using hk'
            rw [this]; exact hh
        · obtain ⟨ns, t, l2, z1, z2⟩ := h10
          exact ⟨ns, t, l2, (updM_ne hne).trans z1, z2⟩
        · intro a ha hb
          rw [updM_ne hb, n10 a ha, n9 a ha, n8 a ha]
          exact q5 a ha hb
      have cases2 : r2 = 0 ∨ r2 = 1 := by omega
      rcases cases2 with rfl | rfl
      · repeat walk_at "v"
        exact ⟨_, q10, by simp [rowsOf]; omega, ⟨_, _, rfl⟩, hi2, done _ (hd_text hz)⟩
      · repeat walk_at "v"
        exact ⟨_, q10, by simp [rowsOf]; omega, ⟨_, _, rfl⟩, hi2, done _ hfr⟩
    · rintro e M5 ⟨⟨o, far, rfl⟩, _, rs, q1, q2, q3, q4, q5⟩
      rw [hlen] at q2 q4
      rw [List.take_length] at q2
      repeat walk_at "v"
      refine ee_tupleOf ?_
      repeat walk_at "v"
      refine .inl ⟨_, .m q1, ?_⟩
      repeat walk_at "v"
      have hd : SubM (dropM M5 lr) M5 := fun a o h => by
        unfold dropM at h
        split at h
        · cases h
        · exact h
      refine ⟨_, _, .sub hd, k _ _ (img_leaf (by rw [q2]; exact hk) q3 hx) ?_ ?_⟩
      · obtain ⟨ns, t, l2, z1, z2⟩ := q4.less (b' := b) (by omega)
        exact ⟨ns, t, l2, by unfold dropM; rw [if_neg hne]; exact z1, z2⟩
      · intro a ha
        unfold dropM
        split
        · rename_i z; rw [z, ← n3 lr (Ne.symm hne), hlr]
        · rename_i z; exact q5 a ha z
  refine ss_when (p := way = 3) (fun R k => by (repeat walk_at "v"); exact k) (fun hw => ?_) (fun hw3 => ?_)
  · refine ss_cut (fun e M5 => ∃ ns : List Int, KeysIn 4 ns ∧ e = [some (.m l), some (.d (.int way)), some (.d x), none, none, none, some (.d (.tuple (ns.map PyData.int))), none, none] ∧ PenOk (b + 54) M5 l ∧ Near l M M5) (ss_asg ?_) ?_
    · repeat walk_at "v"
      refine ⟨rfl, l, b + 54, 4, rfl, by decide, h3, fun ns M4 hk h4 n4 => ?_⟩
      repeat walk_at "v"
      exact ⟨ns, hk, rfl, h4, n3.trans n4⟩
    rintro e M5 ⟨ns, hk, rfl, h5, n5⟩
    refine ss_cut (fun e M6 => ∃ ns : List Int, ns ≠ [] ∧ KeysIn 4 ns ∧ e = [some (.m l), some (.d (.int way)), some (.d x), none, none, none, some (.d (.tuple (ns.map PyData.int))), none, none] ∧ M6 = M5) (ss_asg ?_) ?_
    · repeat walk_at "v"
      refine rr_neD (.d _) (.d _) (shaped_intsT ns) (by decide) ?_
      rw [eqv_nilT]
      repeat walk_at "v"
      refine ⟨fun hc => ?_, fun hc => ?_⟩
      · repeat walk_at "v"
        refine ⟨ns, ?_, hk, rfl, rfl⟩
        rintro rfl
        simp at hc
      · repeat walk_at "v"
        exact ⟨[5], by simp, ⟨by decide, by decide, by decide⟩, rfl, rfl⟩
    rintro e M6 ⟨ns, hn0, hk, rfl, rfl⟩
    have hn4 : ns.length ≤ 4 := by have := hk.1; omega
    repeat walk_at "v"
    refine ee_tupleOf ?_
    refine ee_lc (only_name (by simp)) (ei_r1 ?_)
    repeat walk_at "v"
    rw [List.length_map]
    refine ⟨by omega, ?_⟩
    have hlen : ((upto ((ns.length : Int) + 1).toNat 0).map AV.d).length = ns.length + 1 := by simp [upto]
    refine ⟨by rw [hlen]; omega, fun i acc M7 => ∃ ps : List PyData, acc = ps.map AV.d ∧ ps.length = i ∧ (∀ y ∈ ps, Pg y) ∧ i ≤ ns.length + 1 ∧ PenOk (b + 3 * (5 - i)) M7 l ∧ Near l M6 M7, ?_, fun _ _ _ _ => trivial, ?_, ?_⟩
    · exact ⟨[], rfl, rfl, fun _ h => (nomatch h), Nat.zero_le _, h5.less (by omega), Near.refl _ _⟩
    · rintro i a ha acc M7 _ ⟨ps, rfl, z1, z2, z3, z4, z5⟩
      have hi2 : i < ns.length + 1 := by
        have := (List.getElem?_eq_some_iff.mp ha).1
        rw [hlen] at this
        exact this
      repeat walk_at "v"
      refine ⟨rfl, l, b + 3 * (5 - (i + 1)), rfl, z4.less (by omega), fun pg M8 p1 p2 h8 n8 => ?_⟩
      repeat walk_at "v"
      refine ⟨ps ++ [.int pg], by simp, by simp [z1], ?_, hi2, h8, z5.trans n8⟩
      intro y hy
      rcases List.mem_append.mp hy with hy | hy
      · exact z2 y hy
      · have : y = .int pg := by simpa using hy
        rw [this]; exact pg_of p1 p2
    · rintro acc M7 _ ⟨ps, rfl, z1, z2, z3, z4, z5⟩
      rw [hlen] at z1
      refine .inl ⟨ps, rfl, .inl ⟨_, .d _, ?_⟩⟩
      repeat walk_at "v"
      exact fin_d (k _ M7 (img_inner ⟨by have := hk.1; omega, hk.2⟩ hn0 z2 z1) (z4.less (by omega)) (n5.trans z5))
  have cases4 : way = 4 ∨ way = 5 := by omega
  rcases cases4 with rfl | rfl
  · repeat walk_at "v"
    refine ⟨fun _ => ?_, fun z => absurd z (by decide)⟩
    repeat walk_at "v"
    refine ⟨rfl, l, b + 82, 1, rfl, by decide, h3, fun z M4 hz h4 n4 => ?_⟩
    repeat walk_at "v"
    exact fin_d (k _ M4 (img_piece hz hx) (h4.less (by omega)) (n3.trans n4))
  · repeat walk_at "v"
    refine ⟨fun z => absurd z (by decide), fun _ => ?_⟩
    repeat walk_at "v"
    exact fin_d (k _ M3 img_free (h3.less (by omega)) n3)
end K49

set_option Elab.async false
set_option linter.all false
set_option maxRecDepth 100000
set_option maxHeartbeats 4000000
namespace K49
open PySem PySem.Spec PyProof.Rows L2 DL
variable {P : Program} {w : World} {K : PySem.W.Frag} {mg : Str → Option Value} {base : Heap}
local macro_rules | `(tactic| walk_at "v") => `(tactic| first
  | (with_reducible refine ssq_asg ?_) | (with_reducible refine ssq_drop ?_) | (with_reducible refine ssq_dput ?_) | (with_reducible refine ssq_par ?_) | (with_reducible refine ss_asg ?_) | (with_reducible refine sg_name ?_) | (with_reducible refine ss_ret ?_) | (with_reducible refine ss_next ?_) | (with_reducible refine ss_dput ?_) | (with_reducible refine ss_drop ?_)
  | (with_reducible refine et_test ?_) | (with_reducible refine et_B ?_) | (with_reducible refine et_not ?_) | (with_reducible refine et_and ?_) | (with_reducible refine et_or ?_) | (with_reducible refine et_ifE ?_)
  | (with_reducible refine ee_andV ?_) | (with_reducible refine ee_orV ?_) | (with_reducible refine ee_notV ?_) | (with_reducible refine ee_chain ?_)
  | (with_reducible refine ee_op ?_) | ((with_reducible refine ee_var (a := ?a1) ?h1 ?_); (case h1 => exact rfl)) | (with_reducible refine ee_int ?_) | (with_reducible refine ee_str ?_) | (with_reducible refine ee_bl ?_) | (with_reducible refine ee_non ?_) | (with_reducible refine ee_ty ?_)
  | (with_reducible refine ee_dget ?_) | (with_reducible refine ee_cb ?_) | (with_reducible refine ea_cons ?_) | (with_reducible refine ea_nil ?_)
  | ((with_reducible refine ee_call ?_)) | (with_reducible refine ee_revT ?_) | (with_reducible refine ee_sl ?_) | (with_reducible refine eo_none ?_) | (with_reducible refine eo_some ?_) | (with_reducible refine rs_tup ?_)
  | (with_reducible refine rr_add ?_) | (with_reducible refine rr_sub ?_) | (with_reducible refine rr_lt ?_) | (with_reducible refine rr_le ?_) | (with_reducible refine rr_gt ?_) | (with_reducible refine rr_ge ?_) | (with_reducible refine rr_eqI ?_) | (with_reducible refine rr_neI ?_) | (with_reducible refine rr_eqStr ?_) | (with_reducible refine rr_neStr ?_)
  | (with_reducible refine rr_eqSS ?_) | (with_reducible refine rr_eqS0T ?_)
  | ((with_reducible refine rr_mod ?h1 ?_); (case h1 => omega)) | ((with_reducible refine rr_pow ?h1 ?_); (case h1 => (refine ⟨by omega, by omega, by omega⟩)))
  | ((with_reducible refine rr_mul ?h1 ?_); (case h1 => (first | exact .inl ⟨by omega, by omega⟩ | exact .inr ⟨by omega, by omega⟩)))
  | ((with_reducible refine rr_fdivW ?h1 ?_); (case h1 => exact cdivW (by omega) (by omega)))
  | (with_reducible refine rc_abs ?_) | (with_reducible refine rc_int_bl ?_) | (with_reducible refine ru_neg ?_) | (with_reducible refine ee_un ?_) | (with_reducible refine ee_if ?_) | (with_reducible refine rc_ord ?_) | (with_reducible refine rc_len_tup ?_)
  | (with_reducible refine rc_isi (kit_tup _) (.d _) ?_) | (with_reducible refine rc_isi (kit_str _) (.d _) ?_) | (with_reducible refine rc_isi (kit_int _) (.d _) ?_) | (with_reducible refine rc_isi (kit_bool _) (.d _) ?_) | (with_reducible refine rc_isi (kit_list _) (.d _) ?_)
  | (with_reducible refine tt ?_) | (with_reducible refine ff ?_) | (with_reducible refine ttN ?_) | (with_reducible refine ffN ?_)
  | (with_reducible refine et_yes ?_) | (with_reducible refine rr_isN ?_) | (with_reducible refine rr_notN ?_) | ((with_reducible refine rr_at (d := ?d1) ?h0 ?h1 ?_); (case h0 => decide); (case h1 => exact rfl)) | ((with_reducible refine rr_atL (d := ?d1) ?h0 ?h1 ?_); (case h0 => decide); (case h1 => exact rfl))
  | (with_reducible refine ee_tup ?_) | (with_reducible refine ee_lst ?_)
  | (with_reducible refine ⟨_, rfl, ?_⟩)
  | (with_reducible refine row0 ?_) | (with_reducible refine row1 ?_) | (with_reducible refine row2 ?_) | (with_reducible refine row3 ?_) | (with_reducible refine row4 ?_) | (with_reducible refine row5 ?_) | (with_reducible refine row6 ?_) | (with_reducible refine row7 ?_) | (with_reducible refine row8 ?_) | (with_reducible refine row9 ?_) | (with_reducible refine row10 ?_) | (with_reducible refine row11 ?_) | (with_reducible refine row12 ?_) | (with_reducible refine row13 ?_) | (with_reducible refine row14 ?_) | (with_reducible refine row15 ?_) | (with_reducible refine row16 ?_) | (with_reducible refine row17 ?_) | (with_reducible refine row18 ?_) | (with_reducible refine row19 ?_) | (with_reducible refine row20 ?_))
theorem nice_cut {m d : Nat} {xs : List PyData} (h : NiceAll m d xs) (lo hi : Option Int) : NiceAll m d (cutL xs lo hi) := by
  unfold cutL
  have hdrop : ∀ (n : Nat) (xs : List PyData), NiceAll m d xs → NiceAll m d (xs.drop n) := by
    intro n
    induction n with
    | zero => intro xs h; exact h
    | succ n ih =>
      intro xs h
      cases xs with
      | nil => exact h
      | cons x xs =>
        refine ih xs ⟨?_, ?_, ?_⟩
        · have := h.f; simp [fineAll] at this; exact this.2
        · have := h.m; simp only [massAll] at this; omega
        · have := h.d; simp only [PyData.depthAll] at this; omega
  have htake : ∀ (n : Nat) (xs : List PyData), NiceAll m d xs → NiceAll m d (xs.take n) := by
    intro n xs h
    have e := List.take_append_drop n xs
    refine ⟨?_, ?_, ?_⟩
    · have := h.f; rw [← e, fineAll_app] at this; simp at this; exact this.1
    · have := h.m; rw [← e, massAll_app] at this; omega
    · have := h.d; rw [← e, depthAll_app] at this; omega
  exact htake _ _ (hdrop _ _ h)
theorem nice_rev {m d : Nat} {xs : List PyData} (h : NiceAll m d xs) : NiceAll m d xs.reverse := by
  refine ⟨?_, by rw [massAll_rev]; exact h.m, ?_⟩
  · rw [fineAll_mem]; exact fun x hx => fineAll_mem.mp h.f x (List.mem_reverse.mp hx)
  · exact depthAll_le fun x hx => Nat.le_trans (depthAll_mem (List.mem_reverse.mp hx)) h.d
-- slots: 0:_law_pen_here 1:_law_thing 2:_law_some
abbrev s_law_odd : Stmt := top 39
theorem sc_law_odd : FnScope ["_law_pen_here", "_law_thing", "_law_some"] ["_law_pen_here", "_law_thing"] (defScope s_law_odd) := ⟨rfl, rfl, rfl, by decide +kernel, rfl, by decide +kernel, by decide +kernel⟩
def S_odd : SpD := fun as M R => ∃ l b x m d, as = [.m l, .d x] ∧ Nice m d x ∧ m ≤ 5000 ∧ PenOk (b + 1) M l ∧ ∀ y M', Nice (2 * m + 330) (d + 3) y → PenOk b M' l → Near l M M' → R (.d y) M'
theorem ok__law_odd {f : Addr} {fd : FuncData} (Fn : Fun K "_law_odd" "_law_odd" s_law_odd f fd) (T : Bt mg) (h__law_draw : HDraw P w K mg base) :
    FnOk P w K mg base CX0 2 f fd ["_law_pen_here", "_law_thing"] (toSp K 2 S_odd) := by
  refine def_ok Fn sc_law_odd (fun cdv A outer s H E hr => ?_)
  have hu := hu_of hr
  refine ⟨_, (pss_cons (ps_set (i := 2) sc_law_odd.nd rfl (by first | exact Or.inl rfl | exact Or.inr rfl) (pe_lst (pa_cons pe_non (pa_cons pe_bl (pa_cons pe_bl (pa_cons (pe_un un_neg pe_int) (pa_cons pe_int (pa_cons pe_int (pa_cons pe_str (pa_cons pe_str (pa_cons (pe_op op_mulS pe_str pe_int) (pa_cons pe_str (pa_cons pe_str (pa_cons pe_str (pa_cons (pe_tup pa_nil) (pa_cons (pe_lst pa_nil) (pa_cons pe_dnewK (pa_cons (pe_tup (pa_cons pe_int pa_nil)) (pa_cons (pe_tup (pa_cons pe_int (pa_cons pe_str pa_nil))) (pa_cons (pe_tup (pa_cons pe_str (pa_cons pe_int (pa_cons pe_int pa_nil)))) pa_nil))))))))))))))))))))
      (pss_cons (ps_set (i := 2) sc_law_odd.nd rfl (by first | exact Or.inl rfl | exact Or.inr rfl) (pe_op op_cat (pv 2) (pe_lst (pa_cons (pe_tup (pa_cons pe_str (pa_cons pe_int (pa_cons pe_int pa_nil)))) (pa_cons (pe_tup (pa_cons pe_str (pa_cons pe_int (pa_cons pe_int pa_nil)))) (pa_cons (pe_tup (pa_cons pe_str (pa_cons pe_bl (pa_cons pe_int pa_nil)))) (pa_cons (pe_tup (pa_cons pe_str (pa_cons pe_int pa_nil))) (pa_cons (pe_lst (pa_cons pe_str (pa_cons pe_int (pa_cons pe_int pa_nil)))) (pa_cons (pe_op op_pow pe_int pe_int) (pa_cons (pe_op op_sub pe_int (pe_op op_pow pe_int pe_int)) pa_nil))))))))))
      (pss_cons (ps_expr (pe_bm PySem.F.plainAttrs_list PySem.F.slot_list_append PySem.F.type_list_append (mt_append) (pv 2) (pa_cons (pe_op op_pow pe_int pe_int) pa_nil)))
      (pss_cons (ps_set (i := 2) sc_law_odd.nd rfl (by first | exact Or.inl rfl | exact Or.inr rfl) (pe_op op_cat (pv 2) (pe_lst (pa_cons (pe_tup (pa_cons pe_str pa_nil)) (pa_cons (pe_tup (pa_cons pe_str (pa_cons pe_int pa_nil))) (pa_cons pe_str (pa_cons pe_str (pa_cons (pe_tup (pa_cons pe_bl pa_nil)) (pa_cons (pe_tup (pa_cons pe_int pa_nil)) (pa_cons (pe_tup (pa_cons pe_str (pa_cons pe_int (pa_cons pe_int pa_nil)))) (pa_cons (pe_op op_sub pe_int (pe_op op_pow pe_int pe_int)) pa_nil)))))))))))
      (pss_cons (ps_if (pt_val (pe_callB (show CallR _ _ (rIsi K) from call_isi) (by rfl) T.isinstance (by decide +kernel) (pa_cons (pv 1) (pa_cons (pe_bltn (v := .ty "tuple") (by rfl) T.tuple (by decide +kernel) rfl) pa_nil)))) (pss_one (ps_set (i := 2) sc_law_odd.nd rfl (by first | exact Or.inl rfl | exact Or.inr rfl) (pe_op op_cat (pv 2) (pe_lst (pa_cons (pe_callTy (show CallR _ _ (fun xs H Q => ∃ p ys, xs = [.ref p] ∧ (SqL K H p ys ∨ SqT K H p ys) ∧ ∀ l, H l = none → Q (.ref l) (upd H l (.lst ys))) from call_list_of) (by rfl) T.list (by decide +kernel) (pa_cons (pv 1) pa_nil)) (pa_cons (pe_op (show OpR _ _ (rCatA K) from op_catA) (pv 1) (pe_tup (pa_cons pe_non pa_nil))) (pa_cons (show PE _ _ (tRevT K _) from pe_revT (pv 1)) (pa_cons (pe_tup (pa_cons (pv 1) pa_nil)) (pa_cons (pe_op (show OpR _ _ (rCatA K) from op_catA) (pv 1) (pv 1)) (pa_cons (pe_slice (show SlR _ (rSlA K) from sl_tupA) (pv 1) (po_some pe_int) po_none) (pa_cons (pe_slice (show SlR _ (rSlA K) from sl_tupA) (pv 1) po_none (po_some (pe_un un_neg pe_int))) pa_nil))))))))))) pss_nil)
      (pss_one (ps_ret (pe_ix (show IxR _ (rIx K) from ix_seq) (pv 2) (pe_call h__law_draw.ok (hr.mono (by first | decide | (show _ ≤ 3 + _; omega))) (by rfl) h__law_draw.mg h__law_draw.kp h__law_draw.b .nil pass0 (pa_cons (pv 0) (pa_cons (pe_callB (show CallR _ _ (fun xs H Q => ∃ x n, xs = [x] ∧ LenV K x H n ∧ Q (.int n) H) from call_len) (by rfl) T.len (by decide +kernel) (pa_cons (pv 2) pa_nil)) pa_nil))) (fun _ _ => rfl))))))))), ?_⟩
  rintro as M R hl ⟨l, b, x, m, d, rfl, hx, hm, h0, k⟩
  try simp only [cxK]
  show SS K _ [some (.m l), some (.d x), none] M _
  refine ss_cut (fun e M1 => ∃ ds, e = [some (.m l), some (.d x), some (.d (.list ds))] ∧ ds.length ≤ 100 ∧ NiceAll 200 3 ds ∧ M1 = M) (ss_asg ?_) ?_
  · repeat walk_at "v"
    refine rr_mulS (by decide) ?_
    repeat walk_at "v"
    refine ee_dnew0 ?_
    repeat walk_at "v"
    exact ⟨by decide, ⟨by decide +kernel, by decide +kernel, by decide +kernel⟩, rfl⟩
  rintro e M1 ⟨ds, rfl, hd1, hd2, rfl⟩
  refine ss_cut (fun e M2 => ∃ lr, lr ≠ l ∧ M1 lr = none ∧ e = [some (.m l), some (.d x), some (.m lr)] ∧ (∃ es : List PyData, M2 = updM M1 lr (.lst (es.map AV.d)) ∧ es.length ≤ 150 ∧ NiceAll 260 3 es)) (ss_asg ?_) ?_
  · repeat walk_at "v"
    refine rr_catM (.d _) (.d _) (by simp; omega) fun lr hlr => ?_
    repeat walk_at "v"
    refine ⟨lr, ?_, hlr, rfl, _, rfl, by simp; omega, (hd2.app (b := 60) ⟨by decide, by decide, by decide⟩).mono (by decide) (Nat.le_refl _)⟩
    rintro rfl
    obtain ⟨ns, t, l2, q1, _⟩ := h0
    rw [hlr] at q1
    cases q1
  rintro e M2 ⟨lr, hne, hlr, rfl, es, rfl, he1, he2⟩
  have f1 : ∀ a, M1 a ≠ none → a ≠ lr := fun a h1 h2 => h1 (h2 ▸ hlr)
  have hsame : updM M1 lr (.lst (es.map AV.d)) lr = some (.lst (es.map AV.d)) := updM_same
  refine ss_cut (fun e M2 => e = [some (.m l), some (.d x), some (.m lr)] ∧ ∃ es : List PyData, M2 = updM M1 lr (.lst (es.map AV.d)) ∧ es.length ≤ 151 ∧ NiceAll 261 3 es) (ss_drop (ee_append ?_)) ?_
  · repeat walk_at "v"
    refine ⟨⟨_, hsame⟩, ?_⟩
    repeat walk_at "v"
    refine ⟨_, hsame, by simp; omega, rfl, es ++ [.int (10 ^ (40 : Int).toNat)], ?_, by simp; omega, he2.app (NiceAll.cons (b := 0) ((nice_int (by decide) (by decide)).mono (Nat.le_refl _) (by decide)) NiceAll.nil)⟩
    rw [updM_updM]
    simp
  rintro e M2 ⟨rfl, es, rfl, he1, he2⟩
  have hsame : updM M1 lr (.lst (es.map AV.d)) lr = some (.lst (es.map AV.d)) := updM_same
  refine ss_cut (fun e M2 => e = [some (.m l), some (.d x), some (.d (.list (es ++ [.tuple [.str "free"], .tuple [.str "free", .int 0], .str "leaf", .str "inner", .tuple [.bool true], .tuple [.int 0], .tuple [.str "9", .int 9, .int 9], .int (1 - 10 ^ (15 : Int).toNat)])))] ∧ M2 = updM M1 lr (.lst (es.map AV.d))) (ss_asg ?_) ?_
  · repeat walk_at "v"
    refine rr_cat (.m hsame) (.d _) (by simp; omega) ?_
    repeat walk_at "v"
    first | exact ⟨rfl, rfl⟩ | exact rfl
  rintro e M2 ⟨rfl, rfl⟩
  generalize hes : es ++ _ = gs
  have hg : NiceAll 320 3 gs ∧ gs.length ≤ 170 := by
    rw [← hes]
    exact ⟨(he2.app (b := 59) ⟨by decide +kernel, by decide +kernel, by decide +kernel⟩), by simp; omega⟩
  refine ss_cut (fun e M2 => ∃ hs : List PyData, e = [some (.m l), some (.d x), some (.d (.list hs))] ∧ M2 = updM M1 lr (.lst (es.map AV.d)) ∧ 0 < hs.length ∧ hs.length ≤ 200 ∧ ∀ y ∈ hs, Nice (2 * m + 330) (d + 3) y) (ss_if ?_) ?_
  · have hg3 : ∀ y ∈ gs, Nice (2 * m + 330) (d + 3) y := fun y hy => ⟨fineAll_mem.mp hg.1.f y hy, by have := massAll_mem hy; have := hg.1.m; omega, by have := depthAll_mem hy; have := hg.1.d; omega⟩
    have hg4 : 0 < gs.length := by rw [← hes]; simp
    repeat walk_at "v"
    refine ⟨fun hc => ?_, fun hc => ?_⟩
    · obtain ⟨xs, rfl⟩ : ∃ xs, x = .tuple xs := by
        cases x <;> simp [isTup] at hc
        exact ⟨_, rfl⟩
      have hN : NiceAll m d xs := ⟨by simpa [fine] using hx.f, by have := hx.m; simp only [mass] at this; omega, by have := hx.d; simp only [PyData.depth] at this; omega⟩
      have hd1 : 1 ≤ d := by have := hx.d; simp only [PyData.depth] at this; omega
      have hxl : xs.length ≤ 5000 := Nat.le_trans (massAll_len xs) (Nat.le_trans hN.m hm)
      repeat walk_at "v"
      refine rc_listT ?_
      repeat walk_at "v"
      refine rr_catT (by first | omega | (simp; omega)) ?_
      repeat walk_at "v"
      refine rr_catT (by first | omega | (simp; omega)) ?_
      repeat walk_at "v"
      refine rr_cat (.d _) (.d _) (by simp; omega) ?_
      repeat walk_at "v"
      refine ⟨rfl, by simp, by simp; omega, fun y hy => ?_⟩
      rcases List.mem_append.mp hy with hy | hy
      · exact hg3 y hy
      · have up : ∀ {a c : Nat} {z : PyData}, Nice a c z → a ≤ 2 * m + 330 → c ≤ d + 3 → Nice (2 * m + 330) (d + 3) z := fun h h1 h2 => h.mono h1 h2
        have cutN : ∀ lo hi, NiceAll m d (cutL xs lo hi) := fun lo hi => nice_cut hN lo hi
        simp only [List.mem_cons, List.not_mem_nil, or_false] at hy
        rcases hy with rfl | rfl | rfl | rfl | rfl | rfl | rfl
        · exact up hN.lst (by omega) (by omega)
        · exact up (hN.app (NiceAll.cons (b := 0) (nice_non.mono (Nat.le_refl _) (by omega)) NiceAll.nil)).tup (by omega) (by omega)
        · exact up (nice_rev hN).tup (by omega) (by omega)
        · exact up (NiceAll.cons (b := 0) hx NiceAll.nil).tup (by omega) (by omega)
        · exact up (hN.app hN).tup (by omega) (by omega)
        · exact up (cutN _ _).tup (by omega) (by omega)
        · exact up (cutN _ _).tup (by omega) (by omega)
    · repeat walk_at "v"
      exact ⟨rfl, hg4, by omega, hg3⟩
  rintro e M2 ⟨hs, rfl, rfl, z1, z2, z3⟩
  have hp : PenOk (b + 1) (updM M1 lr (.lst (es.map AV.d))) l := by
    obtain ⟨ns, t, l2, q1, q2⟩ := h0
    exact ⟨ns, t, l2, (updM_ne (Ne.symm hne)).trans q1, q2⟩
  repeat walk_at "v"
  refine rc_len_list (.d _) ?_
  repeat walk_at "v"
  refine ⟨rfl, l, b, hs.length, rfl, by omega, hp, fun r M3 r1 r2 h3 n3 => ?_⟩
  have hr : r.toNat < hs.length := by omega
  have hy : hs[r.toNat]? = some hs[r.toNat] := List.getElem?_eq_getElem hr
  repeat walk_at "v"
  refine rr_ixD (d := hs[r.toNat]) ?_ ?_
  · exact atI_nat' r1 hy
  · have hd : SubM (dropM M3 lr) M3 := fun a o h => by
      unfold dropM at h
      split at h
      · cases h
      · exact h
    refine ⟨_, _, .sub hd, k _ _ (z3 _ (List.getElem_mem hr)) ?_ ?_⟩
    · obtain ⟨ns, t, l2, q1, q2⟩ := h3
      exact ⟨ns, t, l2, by unfold dropM; rw [if_neg (Ne.symm hne)]; exact q1, q2⟩
    · intro a ha
      unfold dropM
      split
      · rename_i z; rw [z, hlr]
      · rename_i z; rw [n3 a ha, updM_ne z]
end K49

set_option Elab.async false
set_option linter.all false
set_option maxRecDepth 100000
set_option maxHeartbeats 4000000
namespace K49
open PySem PySem.Spec PyProof.Rows L2 DL
variable {P : Program} {w : World} {K : PySem.W.Frag} {mg : Str → Option Value} {base : Heap}
local macro_rules | `(tactic| walk_at "v") => `(tactic| first
  | (with_reducible refine ssq_asg ?_) | (with_reducible refine ssq_drop ?_) | (with_reducible refine ssq_dput ?_) | (with_reducible refine ssq_par ?_) | (with_reducible refine ss_asg ?_) | (with_reducible refine sg_name ?_) | (with_reducible refine ss_ret ?_) | (with_reducible refine ss_next ?_) | (with_reducible refine ss_dput ?_) | (with_reducible refine ss_drop ?_)
  | (with_reducible refine et_test ?_) | (with_reducible refine et_B ?_) | (with_reducible refine et_not ?_) | (with_reducible refine et_and ?_) | (with_reducible refine et_or ?_) | (with_reducible refine et_ifE ?_)
  | (with_reducible refine ee_andV ?_) | (with_reducible refine ee_orV ?_) | (with_reducible refine ee_notV ?_) | (with_reducible refine ee_chain ?_)
  | (with_reducible refine ee_op ?_) | ((with_reducible refine ee_var (a := ?a1) ?h1 ?_); (case h1 => exact rfl)) | (with_reducible refine ee_int ?_) | (with_reducible refine ee_str ?_) | (with_reducible refine ee_bl ?_) | (with_reducible refine ee_non ?_) | (with_reducible refine ee_ty ?_)
  | (with_reducible refine ee_dget ?_) | (with_reducible refine ee_cb ?_) | (with_reducible refine ea_cons ?_) | (with_reducible refine ea_nil ?_)
  | ((with_reducible refine ee_call ?_)) | (with_reducible refine ee_revT ?_) | (with_reducible refine ee_sl ?_) | (with_reducible refine eo_none ?_) | (with_reducible refine eo_some ?_) | (with_reducible refine rs_tup ?_)
  | (with_reducible refine rr_add ?_) | (with_reducible refine rr_sub ?_) | (with_reducible refine rr_lt ?_) | (with_reducible refine rr_le ?_) | (with_reducible refine rr_gt ?_) | (with_reducible refine rr_ge ?_) | (with_reducible refine rr_eqI ?_) | (with_reducible refine rr_neI ?_) | (with_reducible refine rr_eqStr ?_) | (with_reducible refine rr_neStr ?_)
  | (with_reducible refine rr_eqSS ?_) | (with_reducible refine rr_eqS0T ?_)
  | ((with_reducible refine rr_mod ?h1 ?_); (case h1 => omega)) | ((with_reducible refine rr_pow ?h1 ?_); (case h1 => (refine ⟨by omega, by omega, by omega⟩)))
  | ((with_reducible refine rr_mul ?h1 ?_); (case h1 => (first | exact .inl ⟨by omega, by omega⟩ | exact .inr ⟨by omega, by omega⟩)))
  | ((with_reducible refine rr_fdivW ?h1 ?_); (case h1 => exact cdivW (by omega) (by omega)))
  | (with_reducible refine rc_abs ?_) | (with_reducible refine rc_int_bl ?_) | (with_reducible refine ru_neg ?_) | (with_reducible refine ee_un ?_) | (with_reducible refine ee_if ?_) | (with_reducible refine rc_ord ?_) | (with_reducible refine rc_len_tup ?_)
  | (with_reducible refine rc_isi (kit_tup _) (.d _) ?_) | (with_reducible refine rc_isi (kit_str _) (.d _) ?_) | (with_reducible refine rc_isi (kit_int _) (.d _) ?_) | (with_reducible refine rc_isi (kit_bool _) (.d _) ?_) | (with_reducible refine rc_isi (kit_list _) (.d _) ?_)
  | (with_reducible refine tt ?_) | (with_reducible refine ff ?_) | (with_reducible refine ttN ?_) | (with_reducible refine ffN ?_)
  | (with_reducible refine et_yes ?_) | (with_reducible refine rr_isN ?_) | (with_reducible refine rr_notN ?_) | ((with_reducible refine rr_at (d := ?d1) ?h0 ?h1 ?_); (case h0 => decide); (case h1 => exact rfl)) | ((with_reducible refine rr_atL (d := ?d1) ?h0 ?h1 ?_); (case h0 => decide); (case h1 => exact rfl))
  | (with_reducible refine ee_tup ?_) | (with_reducible refine ee_lst ?_)
  | (with_reducible refine ⟨_, rfl, ?_⟩)
  | (with_reducible refine row0 ?_) | (with_reducible refine row1 ?_) | (with_reducible refine row2 ?_) | (with_reducible refine row3 ?_) | (with_reducible refine row4 ?_) | (with_reducible refine row5 ?_) | (with_reducible refine row6 ?_) | (with_reducible refine row7 ?_) | (with_reducible refine row8 ?_) | (with_reducible refine row9 ?_) | (with_reducible refine row10 ?_) | (with_reducible refine row11 ?_) | (with_reducible refine row12 ?_) | (with_reducible refine row13 ?_) | (with_reducible refine row14 ?_) | (with_reducible refine row15 ?_) | (with_reducible refine row16 ?_) | (with_reducible refine row17 ?_) | (with_reducible refine row18 ?_) | (with_reducible refine row19 ?_) | (with_reducible refine row20 ?_))
theorem cut_take {xs : List PyData} {i : Int} (h0 : 0 ≤ i) (h1 : i < xs.length) : cutL xs none (some i) = xs.take i.toNat := by
  have a1 : HT.sIx xs.length xs.length (some i) = i.toNat := by
    simp only [HT.sIx]
    split <;> omega
  unfold cutL
  rw [a1]
  rfl
theorem cut_drop {xs : List PyData} {i : Int} (h0 : 0 ≤ i) (h1 : i ≤ xs.length) : cutL xs (some i) none = xs.drop i.toNat := by
  have a1 : HT.sIx xs.length 0 (some i) = i.toNat := by
    simp only [HT.sIx]
    split <;> omega
  have a2 : HT.sIx xs.length xs.length none = xs.length := rfl
  unfold cutL
  rw [a1, a2, List.take_of_length_le (by simp)]
/-- what stands before a place, at it, behind it -/
theorem at_place {m d : Nat} {xs : List PyData} (h : NiceAll m d xs) {i : Nat} (hi : i < xs.length) : ∃ a c b, a + c + b ≤ m ∧ NiceAll a d (xs.take i) ∧ Nice c d xs[i] ∧ NiceAll b d (xs.drop (i + 1)) ∧ NiceAll (c + b) d (xs.drop i) := by
  have e0 : xs.drop i = xs[i] :: xs.drop (i + 1) := List.drop_eq_getElem_cons hi
  have e : xs.take i ++ (xs[i] :: xs.drop (i + 1)) = xs := by rw [← e0]; exact List.take_append_drop i xs
  have f := h.f
  have hm := h.m
  have hd := h.d
  rw [← e, fineAll_app] at f
  rw [← e, massAll_app] at hm
  rw [← e, depthAll_app] at hd
  simp only [fineAll, Bool.and_eq_true] at f
  simp only [massAll] at hm
  simp only [PyData.depthAll] at hd
  have p : Nice (mass xs[i]) d xs[i] := ⟨f.2.1, Nat.le_refl _, by omega⟩
  have q : NiceAll (massAll (xs.drop (i + 1))) d (xs.drop (i + 1)) := ⟨f.2.2, Nat.le_refl _, by omega⟩
  exact ⟨massAll (xs.take i), mass xs[i], massAll (xs.drop (i + 1)), by omega, ⟨f.1, Nat.le_refl _, by omega⟩, p, q, e0 ▸ NiceAll.cons p q⟩
-- slots: 0:_law_pen_here 1:_law_thing 2:_law_at 3:_law_way
abbrev s_law_bent : Stmt := top 40
theorem sc_law_bent : FnScope ["_law_pen_here", "_law_thing", "_law_at", "_law_way"] ["_law_pen_here", "_law_thing"] (defScope s_law_bent) := ⟨rfl, rfl, rfl, by decide +kernel, rfl, by decide +kernel, by decide +kernel⟩
def S_bent (n : Nat) : SpD := fun as M R => ∃ l b x m d, as = [.m l, .d x] ∧ Nice m d x ∧ d < n ∧ m ≤ 2500 ∧ PenOk (b + 4 * n + 1) M l ∧ ∀ y M', Nice (3 * m + 340) (d + 3) y → PenOk b M' l → Near l M M' → R (.d y) M'
/-- one level more -/
theorem bent_step {f : Addr} {fd : FuncData} (n : Nat) (hn : n ≤ 20) (Fn : Fun K "_law_bent" "_law_bent" s_law_bent f fd) (T : Bt mg) (h__law_draw : HDraw P w K mg base)
    (h__law_odd : Has P w K mg base "_law_odd" 2 ["_law_pen_here", "_law_thing"] S_odd) (h__law_bent : Has P w K mg base "_law_bent" (3 + n) ["_law_pen_here", "_law_thing"] (S_bent n)) :
    FnOk P w K mg base CX0 (3 + (n + 1)) f fd ["_law_pen_here", "_law_thing"] (toSp K 2 (S_bent (n + 1))) := by
  refine def_ok Fn sc_law_bent (fun cdv A outer s H E hr => ?_)
  have hu := hu_of hr
  refine ⟨_, (pss_cons (ps_if (PW.pt (pw_or (pt_not (pt_val (pe_callB (show CallR _ _ (rIsi K) from call_isi) (by rfl) T.isinstance (by decide +kernel) (pa_cons (pv 1) (pa_cons (pe_bltn (v := .ty "tuple") (by rfl) T.tuple (by decide +kernel) rfl) pa_nil))))) (pw_or (pt_cmpR (show OpR _ _ (rEqS K) from op_eqS hr.units) (pv 1) (pe_tup pa_nil) (nomark _)) (pw_or1 (pt_cmpR op_eq (pe_call h__law_draw.ok (hr.mono (by first | decide | (show _ ≤ 3 + _; omega))) (by rfl) h__law_draw.mg h__law_draw.kp h__law_draw.b .nil pass0 (pa_cons (pv 0) (pa_cons pe_int pa_nil))) pe_int (nomark _)))))) (pss_one (ps_ret (pe_call h__law_odd.ok (hr.mono (by first | decide | (show _ ≤ 3 + _; omega))) (by rfl) h__law_odd.mg h__law_odd.kp h__law_odd.b .nil pass0 (pa_cons (pv 0) (pa_cons (pv 1) pa_nil))))) pss_nil)
      (pss_cons (ps_par (i := 2) (j := 3) (by rfl) sc_law_bent.nd rfl rfl (by decide) rfl rfl (pa_cons (pe_call h__law_draw.ok (hr.mono (by first | decide | (show _ ≤ 3 + _; omega))) (by rfl) h__law_draw.mg h__law_draw.kp h__law_draw.b .nil pass0 (pa_cons (pv 0) (pa_cons (pe_callB (show CallR _ _ (fun xs H Q => ∃ x n, xs = [x] ∧ LenV K x H n ∧ Q (.int n) H) from call_len) (by rfl) T.len (by decide +kernel) (pa_cons (pv 1) pa_nil)) pa_nil))) (pa_cons (pe_call h__law_draw.ok (hr.mono (by first | decide | (show _ ≤ 3 + _; omega))) (by rfl) h__law_draw.mg h__law_draw.kp h__law_draw.b .nil pass0 (pa_cons (pv 0) (pa_cons pe_int pa_nil))) pa_nil)) (by rfl))
      (pss_cons (ps_if (pt_cmpR op_eq (pv 3) pe_int (nomark _)) (pss_one (ps_ret (pe_op (show OpR _ _ (rCatA K) from op_catA) (pe_slice (show SlR _ (rSlA K) from sl_tupA) (pv 1) po_none (po_some (pv 2))) (pe_slice (show SlR _ (rSlA K) from sl_tupA) (pv 1) (po_some (pe_op op_add (pv 2) pe_int)) po_none)))) pss_nil)
      (pss_cons (ps_if (pt_cmpR op_eq (pv 3) pe_int (nomark _)) (pss_one (ps_ret (pe_op (show OpR _ _ (rCatA K) from op_catA) (pe_op (show OpR _ _ (rCatA K) from op_catA) (pe_slice (show SlR _ (rSlA K) from sl_tupA) (pv 1) po_none (po_some (pv 2))) (pe_tup (pa_cons (pe_call h__law_odd.ok (hr.mono (by first | decide | (show _ ≤ 3 + _; omega))) (by rfl) h__law_odd.mg h__law_odd.kp h__law_odd.b .nil pass0 (pa_cons (pv 0) (pa_cons (pe_ix (show IxR _ (rIx K) from ix_seq) (pv 1) (pv 2) (fun _ _ => rfl)) pa_nil))) pa_nil))) (pe_slice (show SlR _ (rSlA K) from sl_tupA) (pv 1) (po_some (pv 2)) po_none)))) pss_nil)
      (pss_one (ps_ret (pe_op (show OpR _ _ (rCatA K) from op_catA) (pe_op (show OpR _ _ (rCatA K) from op_catA) (pe_slice (show SlR _ (rSlA K) from sl_tupA) (pv 1) po_none (po_some (pv 2))) (pe_tup (pa_cons (pe_call h__law_bent.ok (hr.mono (by first | decide | (show _ ≤ 3 + _; omega))) (by rfl) h__law_bent.mg h__law_bent.kp h__law_bent.b .nil pass0 (pa_cons (pv 0) (pa_cons (pe_ix (show IxR _ (rIx K) from ix_seq) (pv 1) (pv 2) (fun _ _ => rfl)) pa_nil))) pa_nil))) (pe_slice (show SlR _ (rSlA K) from sl_tupA) (pv 1) (po_some (pe_op op_add (pv 2) pe_int)) po_none)))))))), ?_⟩
  rintro as M R hl ⟨l, b, x, m, d, rfl, hx, hdn, hm, h0, k⟩
  try simp only [cxK]
  show SS K _ [some (.m l), some (.d x), none, none] M _
  refine ss_cut (fun e M1 => ∃ xs, x = .tuple xs ∧ 0 < xs.length ∧ e = [some (.m l), some (.d x), none, none] ∧ PenOk (b + 4 * (n + 1)) M1 l ∧ Near l M M1) (ss_if ?_) ?_
  · repeat walk_at "v"
    refine ⟨fun hc => ⟨fun _ => ?_, fun z => (nomatch z)⟩, fun hc => ?_⟩
    · repeat walk_at "v"
      refine ⟨rfl, l, b + 4 * (n + 1), x, m, d, rfl, hx, by omega, h0, fun y M' hy hp nn => ?_⟩
      repeat walk_at "v"
      exact fin_d (k y M' (hy.mono (by omega) (Nat.le_refl _)) (hp.less (by omega)) nn)
    obtain ⟨xs, rfl⟩ : ∃ xs, x = .tuple xs := by
      cases x <;> simp [isTup] at hc
      exact ⟨_, rfl⟩
    repeat walk_at "v"
    refine ⟨fun hc => ⟨fun _ => ?_, fun z => (nomatch z)⟩, fun hc => ?_⟩
    · repeat walk_at "v"
      refine ⟨rfl, l, b + 4 * (n + 1), _, m, d, rfl, hx, by omega, h0, fun y M' hy hp nn => ?_⟩
      repeat walk_at "v"
      exact fin_d (k y M' (hy.mono (by omega) (Nat.le_refl _)) (hp.less (by omega)) nn)
    have hpos : 0 < xs.length := by
      cases xs with
      | nil => simp at hc
      | cons a b => simp
    repeat walk_at "v"
    refine ⟨rfl, l, b + 4 * (n + 1), 5, rfl, by decide, h0, fun r M1 r1 r2 h1 n1 => ?_⟩
    repeat walk_at "v"
    refine ⟨fun hc => ?_, fun hc => ?_⟩
    · repeat walk_at "v"
      refine ⟨rfl, l, b + 4 * n + 3, _, m, d, rfl, hx, by omega, h1, fun y M' hy hp nn => ?_⟩
      repeat walk_at "v"
      exact fin_d (k y M' (hy.mono (by omega) (Nat.le_refl _)) (hp.less (by omega)) (n1.trans nn))
    · repeat walk_at "v"
      exact ⟨hpos, rfl, h1, n1⟩
  rintro e M1 ⟨xs, rfl, hpos, rfl, h1, n1⟩
  have hd1 : 1 ≤ d := by have := hx.d; simp only [PyData.depth] at this; omega
  have hm1 : 1 ≤ m := by have := hx.m; simp only [mass] at this; omega
  have hN : NiceAll (m - 1) (d - 1) xs := ⟨by simpa [fine] using hx.f, by have := hx.m; simp only [mass] at this; omega, by have := hx.d; simp only [PyData.depth] at this; omega⟩
  have hxl : xs.length ≤ 2500 := by have := massAll_len xs; have := hN.m; omega
  refine ss_cut (fun e M2 => ∃ at_ way : Int, 0 ≤ at_ ∧ at_ < xs.length ∧ e = [some (.m l), some (.d (.tuple xs)), some (.d (.int at_)), some (.d (.int way))] ∧ PenOk (b + 4 * n + 2) M2 l ∧ Near l M M2) (ss_par ?_) ?_
  · repeat walk_at "v"
    refine ⟨rfl, l, b + 4 * n + 3, xs.length, rfl, by omega, h1, fun r M2 r1 r2 h2 n2 => ?_⟩
    repeat walk_at "v"
    refine ⟨rfl, l, b + 4 * n + 2, 7, rfl, by decide, h2, fun r' M3 r3 r4 h3 n3 => ?_⟩
    repeat walk_at "v"
    exact ⟨_, _, rfl, r, r', r1, r2, rfl, h3, (n1.trans n2).trans n3⟩
  rintro e M2 ⟨at_, way, a1, a2, rfl, h2, n2⟩
  have hi : at_.toNat < xs.length := by omega
  obtain ⟨c1, c2, c3, cs, ca, cb, cc, cd⟩ := at_place hN hi
  have e1 := cut_take a1 a2
  have e2 : cutL xs (some (at_ + 1)) none = xs.drop (at_.toNat + 1) := by
    rw [cut_drop (by omega) (by omega)]
    congr 1
    omega
  have e3 := cut_drop (xs := xs) a1 (by omega)
  have hat : atD (.tuple xs) at_ = some xs[at_.toNat] := atI_nat' a1 (List.getElem?_eq_getElem hi)
  have up : ∀ {a c : Nat} {z : PyData}, Nice a c z → a ≤ 3 * m + 340 → c ≤ d + 3 → Nice (3 * m + 340) (d + 3) z := fun h h1 h2 => h.mono h1 h2
  have lc : ∀ zs : List PyData, zs.length ≤ xs.length → zs.length ≤ 2500 := fun _ h => by omega
  have lt1 : (xs.take at_.toNat).length ≤ 2500 := lc _ (by simp; omega)
  have lt2 : (xs.drop (at_.toNat + 1)).length ≤ 2500 := lc _ (by simp)
  have lt3 : (xs.drop at_.toNat).length ≤ 2500 := lc _ (by simp)
  refine ss_when (p := way = 0) (fun R k => by (repeat walk_at "v"); exact k) (fun hw => ?_) (fun hw0 => ?_)
  · repeat walk_at "v"
    rw [e1, e2]
    refine rr_catT (by omega) ?_
    repeat walk_at "v"
    exact fin_d (k _ M2 (up (ca.app cc).tup (by omega) (by omega)) (h2.less (by omega)) n2)
  refine ss_when (p := way = 1) (fun R k => by (repeat walk_at "v"); exact k) (fun hw => ?_) (fun hw1 => ?_)
  · repeat walk_at "v"
    rw [e1]
    refine rr_ixD hat ?_
    repeat walk_at "v"
    refine ⟨rfl, l, b + 4 * n + 1, _, c2, d - 1, rfl, cb, by omega, h2, fun y M3 hy h3 n3 => ?_⟩
    repeat walk_at "v"
    refine rr_catT (by simp at lt1 ⊢; omega) ?_
    repeat walk_at "v"
    rw [e3]
    refine rr_catT (by simp at lt1 lt3 ⊢; omega) ?_
    repeat walk_at "v"
    exact fin_d (k _ M3 (up (((ca.mono (Nat.le_refl _) (by omega : d - 1 ≤ d + 2)).app (NiceAll.cons (b := 0) (hy.mono (Nat.le_refl _) (by omega)) NiceAll.nil)).app (cd.mono (Nat.le_refl _) (by omega))).tup (by omega) (by omega)) (h3.less (by omega)) (n2.trans n3))
  · repeat walk_at "v"
    rw [e1]
    refine rr_ixD hat ?_
    repeat walk_at "v"
    refine ⟨rfl, l, b, _, c2, d - 1, rfl, cb, by omega, by omega, h2.less (by omega), fun y M3 hy h3 n3 => ?_⟩
    repeat walk_at "v"
    refine rr_catT (by simp at lt1 ⊢; omega) ?_
    repeat walk_at "v"
    rw [e2]
    refine rr_catT (by simp at lt1 lt2 ⊢; omega) ?_
    repeat walk_at "v"
    exact fin_d (k _ M3 (up (((ca.mono (Nat.le_refl _) (by omega : d - 1 ≤ d + 2)).app (NiceAll.cons (b := 0) (hy.mono (Nat.le_refl _) (by omega)) NiceAll.nil)).app (cc.mono (Nat.le_refl _) (by omega))).tup (by omega) (by omega)) (h3.less (by omega)) (n2.trans n3))
theorem bent_base {f : Addr} {fd : FuncData} : FnOk P w K mg base CX0 (3 + 0) f fd ["_law_pen_here", "_law_thing"] (toSp K 2 (S_bent 0)) := by
  have no : ∀ vs H Q E, ¬ toSp K 2 (S_bent 0) vs H Q E := by
    rintro vs H Q E ⟨_, F, M, as, R, _, _, ⟨l, b, x, m, d, _, hx, hd, _⟩, _⟩
    omega
  exact ⟨fun vs H Q E q => (no _ _ _ _ q).elim, fun A outer s H args us vs Q E _ _ _ _ hs => (no _ _ _ _ hs).elim⟩
theorem ok__law_bent {f : Addr} {fd : FuncData} (Fn : Fun K "_law_bent" "_law_bent" s_law_bent f fd) (T : Bt mg) (h__law_draw : HDraw P w K mg base)
    (h__law_odd : Has P w K mg base "_law_odd" 2 ["_law_pen_here", "_law_thing"] S_odd) (hm : mg "_law_bent" = some (.ref f)) (hk : PySem.W.keepIn K (.ref f) = true) (hb : Binds K fd ["_law_pen_here", "_law_thing"] []) :
    ∀ n, n ≤ 20 → FnOk P w K mg base CX0 (3 + n) f fd ["_law_pen_here", "_law_thing"] (toSp K 2 (S_bent n))
  | 0, _ => bent_base
  | n + 1, h => bent_step n (by omega) Fn T h__law_draw h__law_odd ⟨f, fd, ok__law_bent Fn T h__law_draw h__law_odd hm hk hb n (by omega), hm, hk, hb⟩
end K49

set_option Elab.async false
set_option linter.all false
set_option maxRecDepth 100000
set_option maxHeartbeats 4000000
namespace K49
open PySem PySem.Spec PyProof.Rows L2 DL
variable {P : Program} {w : World} {K : PySem.W.Frag} {mg : Str → Option Value} {base : Heap}
local macro_rules | `(tactic| walk_at "v") => `(tactic| first
  | (with_reducible refine ssq_asg ?_) | (with_reducible refine ssq_drop ?_) | (with_reducible refine ssq_dput ?_) | (with_reducible refine ssq_par ?_) | (with_reducible refine ss_asg ?_) | (with_reducible refine sg_name ?_) | (with_reducible refine ss_ret ?_) | (with_reducible refine ss_next ?_) | (with_reducible refine ss_dput ?_) | (with_reducible refine ss_drop ?_)
  | (with_reducible refine et_test ?_) | (with_reducible refine et_B ?_) | (with_reducible refine et_not ?_) | (with_reducible refine et_and ?_) | (with_reducible refine et_or ?_) | (with_reducible refine et_ifE ?_)
  | (with_reducible refine ee_andV ?_) | (with_reducible refine ee_orV ?_) | (with_reducible refine ee_notV ?_) | (with_reducible refine ee_chain ?_)
  | (with_reducible refine ee_op ?_) | ((with_reducible refine ee_var (a := ?a1) ?h1 ?_); (case h1 => exact rfl)) | (with_reducible refine ee_int ?_) | (with_reducible refine ee_str ?_) | (with_reducible refine ee_bl ?_) | (with_reducible refine ee_non ?_) | (with_reducible refine ee_ty ?_)
  | (with_reducible refine ee_dget ?_) | (with_reducible refine ee_cb ?_) | (with_reducible refine ea_cons ?_) | (with_reducible refine ea_nil ?_)
  | ((with_reducible refine ee_call ?_)) | (with_reducible refine ee_revT ?_) | (with_reducible refine ee_sl ?_) | (with_reducible refine eo_none ?_) | (with_reducible refine eo_some ?_) | (with_reducible refine rs_tup ?_)
  | (with_reducible refine rr_add ?_) | (with_reducible refine rr_sub ?_) | (with_reducible refine rr_lt ?_) | (with_reducible refine rr_le ?_) | (with_reducible refine rr_gt ?_) | (with_reducible refine rr_ge ?_) | (with_reducible refine rr_eqI ?_) | (with_reducible refine rr_neI ?_) | (with_reducible refine rr_eqStr ?_) | (with_reducible refine rr_neStr ?_)
  | (with_reducible refine rr_eqSS ?_) | (with_reducible refine rr_eqS0T ?_)
  | ((with_reducible refine rr_mod ?h1 ?_); (case h1 => omega)) | ((with_reducible refine rr_pow ?h1 ?_); (case h1 => (refine ⟨by omega, by omega, by omega⟩)))
  | ((with_reducible refine rr_mul ?h1 ?_); (case h1 => (first | exact .inl ⟨by omega, by omega⟩ | exact .inr ⟨by omega, by omega⟩)))
  | ((with_reducible refine rr_fdivW ?h1 ?_); (case h1 => exact cdivW (by omega) (by omega)))
  | (with_reducible refine rc_abs ?_) | (with_reducible refine rc_int_bl ?_) | (with_reducible refine ru_neg ?_) | (with_reducible refine ee_un ?_) | (with_reducible refine ee_if ?_) | (with_reducible refine rc_ord ?_) | (with_reducible refine rc_len_tup ?_)
  | (with_reducible refine rc_isi (kit_tup _) (.d _) ?_) | (with_reducible refine rc_isi (kit_str _) (.d _) ?_) | (with_reducible refine rc_isi (kit_int _) (.d _) ?_) | (with_reducible refine rc_isi (kit_bool _) (.d _) ?_) | (with_reducible refine rc_isi (kit_list _) (.d _) ?_)
  | (with_reducible refine tt ?_) | (with_reducible refine ff ?_) | (with_reducible refine ttN ?_) | (with_reducible refine ffN ?_)
  | (with_reducible refine et_yes ?_) | (with_reducible refine rr_isN ?_) | (with_reducible refine rr_notN ?_) | ((with_reducible refine rr_at (d := ?d1) ?h0 ?h1 ?_); (case h0 => decide); (case h1 => exact rfl)) | ((with_reducible refine rr_atL (d := ?d1) ?h0 ?h1 ?_); (case h0 => decide); (case h1 => exact rfl))
  | (with_reducible refine ee_tup ?_) | (with_reducible refine ee_lst ?_)
  | (with_reducible refine ⟨_, rfl, ?_⟩)
  | (with_reducible refine row0 ?_) | (with_reducible refine row1 ?_) | (with_reducible refine row2 ?_) | (with_reducible refine row3 ?_) | (with_reducible refine row4 ?_) | (with_reducible refine row5 ?_) | (with_reducible refine row6 ?_) | (with_reducible refine row7 ?_) | (with_reducible refine row8 ?_) | (with_reducible refine row9 ?_) | (with_reducible refine row10 ?_) | (with_reducible refine row11 ?_) | (with_reducible refine row12 ?_) | (with_reducible refine row13 ?_) | (with_reducible refine row14 ?_) | (with_reducible refine row15 ?_) | (with_reducible refine row16 ?_) | (with_reducible refine row17 ?_) | (with_reducible refine row18 ?_) | (with_reducible refine row19 ?_) | (with_reducible refine row20 ?_))
/-- a def of one parameter, called by place or by name -/
theorem kbinds1 {x qual : Str} {st : Stmt} {f : Addr} {fd : FuncData} {ps ks : List Str} (F : Fun K x qual st f fd)
    (h : ∀ (kV doc pm : Value) (an : Option Addr) (cdv ct : Value) (us ws : List Value), (us ++ ws).length = ps.length → bindArgs (PySem.W.fnOf x qual (defArgs st) (defBody st) (defScope st) .none kV doc pm an cdv ct) ⟨us, ks.zip ws⟩ = pure (ps.zip (us ++ ws))) :
    KBinds K fd ps ks (fun us ws => us ++ ws) (fun vs zs => vs ++ zs) := by
  obtain ⟨oc, od, kV, doc, pm, an, cdv, ct, osl, rfl, lk, hcd⟩ := F.ex
  exact ⟨fun s us ws _ hl => .of_eq (h kV doc pm an cdv ct us ws hl), fun r1 r2 => r1.append r2⟩
theorem app_rel (F : Hp) (vs zs : List V) (as bs : List AV) (h1 : RlAll K F vs as) (h2 : RlAll K F zs bs) : RlAll K F (vs ++ zs) (as ++ bs) := rlAll_app h1 h2
theorem nice_dep {m d : Nat} {x : PyData} (h : Nice m d x) (hd : d ≤ 60) : x.depth ≤ 60 := Nat.le_trans h.d hd
theorem nice_bools (b c : Bool) : Nice 3 2 (.list [.bool b, .bool c]) := ⟨rfl, by simp [mass, massAll], by simp [PyData.depth, PyData.depthAll]⟩
-- slots: 0:_law_thing 1:_law_kept
abbrev s_law_right : Stmt := top 41
theorem sc_law_right : FnScope ["_law_thing", "_law_kept"] ["_law_thing"] (defScope s_law_right) := ⟨rfl, rfl, rfl, by decide +kernel, rfl, by decide +kernel, by decide +kernel⟩
def S_right : SpD := fun as M R => ∃ x m d, as = [.d x] ∧ Nice m d x ∧ m ≤ 8000 ∧ d ≤ 50 ∧ R (.d (.bool true)) M
theorem ok__law_right {f : Addr} {fd : FuncData} (Fn : Fun K "_law_right" "_law_right" s_law_right f fd) (T : Bt mg) (h_is_image : Has P w K mg base "is_image" 6 ["value"] S_is_image)
    (kb : KBinds K h_is_image.fd ["value"] ["value"] (fun us ws => us ++ ws) (fun vs zs => vs ++ zs)) (h__law_due : Has P w K mg base "_law_due" 4 ["_law_thing"] S_is_image) :
    FnG P w K mg base CX0 7 f fd ["_law_thing"] (toSp K 1 S_right) := by
  refine def_okG Fn sc_law_right (fun cdv A outer s H E hgu hr => ?_)
  have hu := hu_of hr
  refine ⟨_, (pss_cons (ps_set (i := 1) sc_law_right.nd rfl (by first | exact Or.inl rfl | exact Or.inr rfl) (pe_callB (show CallR _ _ (rRepr K) from call_repr hgu hr.units) (by rfl) T.repr (by decide +kernel) (pa_cons (pv 0) pa_nil)))
      (pss_one (ps_ret (pe_and (pe_cmpR op_eq (pe_callB (show CallR _ _ (rRepr K) from call_repr hgu hr.units) (by rfl) T.repr (by decide +kernel) (pa_cons (pe_lst (pa_cons (pe_call h_is_image.ok (hr.mono (by first | decide | (show _ ≤ 3 + _; omega))) (by rfl) h_is_image.mg h_is_image.kp h_is_image.b .nil pass0 (pa_cons (pv 0) pa_nil)) (pa_cons (pe_callK0 h_is_image.ok (hr.mono (by first | decide | (show _ ≤ 3 + _; omega))) (by rfl) h_is_image.mg h_is_image.kp kb pass0 (pk_cons (pv 0) pk_nil)) pa_nil))) pa_nil)) (pe_callB (show CallR _ _ (rRepr K) from call_repr hgu hr.units) (by rfl) T.repr (by decide +kernel) (pa_cons (pe_op op_rep (pe_lst (pa_cons (pe_call h__law_due.ok (hr.mono (by first | decide | (show _ ≤ 3 + _; omega))) (by rfl) h__law_due.mg h__law_due.kp h__law_due.b .nil pass0 (pa_cons (pv 0) pa_nil)) pa_nil)) pe_int) pa_nil)) (nomark _)) (pe_one (pe_cmpR op_eq (pe_callB (show CallR _ _ (rRepr K) from call_repr hgu hr.units) (by rfl) T.repr (by decide +kernel) (pa_cons (pv 0) pa_nil)) (pv 1) (nomark _))))))), ?_⟩
  rintro as M R hl ⟨x, m, d, rfl, hx, hm, hd, k⟩
  try simp only [cxK]
  show SS K _ [some (.d x), none] M _
  have hs := fine_showable hx.f
  have hz := hx.shown hm
  have hp := nice_dep hx (by omega)
  have ht := Nice.tidy hx (by omega)
  repeat walk_at "v"
  refine rc_repr (.d _) hs hp hz ?_
  repeat walk_at "v"
  refine ⟨rfl, x, rfl, ht, ?_⟩
  repeat walk_at "v"
  refine ee_callK (gA := fun as bs => as ++ bs) app_rel ?_
  repeat walk_at "v"
  refine ⟨rfl, x, rfl, ht, ?_⟩
  repeat walk_at "v"
  have nb := nice_bools (imgD x) (imgD x)
  refine rc_repr (.d _) (fine_showable nb.f) (nice_dep nb (by decide)) (nb.shown (by decide)) ?_
  repeat walk_at "v"
  refine ⟨rfl, x, rfl, ht, ?_⟩
  repeat walk_at "v"
  refine rr_rep (.d _) (by decide) (by show 1 * 2 ≤ 100000; decide) (by decide) ?_
  repeat walk_at "v"
  show RC K (rRepr K) [AV.d (PyData.list [PyData.bool (imgD x), PyData.bool (imgD x)])] M _
  refine rc_repr (.d _) (fine_showable nb.f) (nice_dep nb (by decide)) (nb.shown (by decide)) ?_
  repeat walk_at "v"
  refine ⟨fun _ => ?_, fun z => ?_⟩
  · repeat walk_at "v"
    refine rc_repr (.d _) hs hp hz ?_
    repeat walk_at "v"
    exact fin_b k (by simp)
  · exfalso
    exact of_decide_eq_false z rfl
end K49

set_option Elab.async false
set_option linter.all false
set_option maxRecDepth 100000
set_option maxHeartbeats 4000000
namespace K49
open PySem PySem.Spec PyProof.Rows L2 DL
variable {P : Program} {w : World} {K : PySem.W.Frag} {mg : Str → Option Value} {base : Heap}
local macro_rules | `(tactic| walk_at "v") => `(tactic| first
  | (with_reducible refine ssq_asg ?_) | (with_reducible refine ssq_drop ?_) | (with_reducible refine ssq_dput ?_) | (with_reducible refine ssq_par ?_) | (with_reducible refine ss_asg ?_) | (with_reducible refine sg_name ?_) | (with_reducible refine ss_ret ?_) | (with_reducible refine ss_next ?_) | (with_reducible refine ss_dput ?_) | (with_reducible refine ss_drop ?_)
  | (with_reducible refine et_test ?_) | (with_reducible refine et_B ?_) | (with_reducible refine et_not ?_) | (with_reducible refine et_and ?_) | (with_reducible refine et_or ?_) | (with_reducible refine et_ifE ?_)
  | (with_reducible refine ee_andV ?_) | (with_reducible refine ee_orV ?_) | (with_reducible refine ee_notV ?_) | (with_reducible refine ee_chain ?_)
  | (with_reducible refine ee_op ?_) | ((with_reducible refine ee_var (a := ?a1) ?h1 ?_); (case h1 => exact rfl)) | (with_reducible refine ee_int ?_) | (with_reducible refine ee_str ?_) | (with_reducible refine ee_bl ?_) | (with_reducible refine ee_non ?_) | (with_reducible refine ee_ty ?_)
  | (with_reducible refine ee_dget ?_) | (with_reducible refine ee_cb ?_) | (with_reducible refine ea_cons ?_) | (with_reducible refine ea_nil ?_)
  | ((with_reducible refine ee_call ?_)) | (with_reducible refine ee_revT ?_) | (with_reducible refine ee_sl ?_) | (with_reducible refine eo_none ?_) | (with_reducible refine eo_some ?_) | (with_reducible refine rs_tup ?_)
  | (with_reducible refine rr_add ?_) | (with_reducible refine rr_sub ?_) | (with_reducible refine rr_lt ?_) | (with_reducible refine rr_le ?_) | (with_reducible refine rr_gt ?_) | (with_reducible refine rr_ge ?_) | (with_reducible refine rr_eqI ?_) | (with_reducible refine rr_neI ?_) | (with_reducible refine rr_eqStr ?_) | (with_reducible refine rr_neStr ?_)
  | (with_reducible refine rr_eqSS ?_) | (with_reducible refine rr_eqS0T ?_)
  | ((with_reducible refine rr_mod ?h1 ?_); (case h1 => omega)) | ((with_reducible refine rr_pow ?h1 ?_); (case h1 => (refine ⟨by omega, by omega, by omega⟩)))
  | ((with_reducible refine rr_mul ?h1 ?_); (case h1 => (first | exact .inl ⟨by omega, by omega⟩ | exact .inr ⟨by omega, by omega⟩)))
  | ((with_reducible refine rr_fdivW ?h1 ?_); (case h1 => exact cdivW (by omega) (by omega)))
  | (with_reducible refine rc_abs ?_) | (with_reducible refine rc_int_bl ?_) | (with_reducible refine ru_neg ?_) | (with_reducible refine ee_un ?_) | (with_reducible refine ee_if ?_) | (with_reducible refine rc_ord ?_) | (with_reducible refine rc_len_tup ?_)
  | (with_reducible refine rc_isi (kit_tup _) (.d _) ?_) | (with_reducible refine rc_isi (kit_str _) (.d _) ?_) | (with_reducible refine rc_isi (kit_int _) (.d _) ?_) | (with_reducible refine rc_isi (kit_bool _) (.d _) ?_) | (with_reducible refine rc_isi (kit_list _) (.d _) ?_)
  | (with_reducible refine tt ?_) | (with_reducible refine ff ?_) | (with_reducible refine ttN ?_) | (with_reducible refine ffN ?_)
  | (with_reducible refine et_yes ?_) | (with_reducible refine rr_isN ?_) | (with_reducible refine rr_notN ?_) | ((with_reducible refine rr_at (d := ?d1) ?h0 ?h1 ?_); (case h0 => decide); (case h1 => exact rfl)) | ((with_reducible refine rr_atL (d := ?d1) ?h0 ?h1 ?_); (case h0 => decide); (case h1 => exact rfl))
  | (with_reducible refine ee_tup ?_) | (with_reducible refine ee_lst ?_)
  | (with_reducible refine ⟨_, rfl, ?_⟩)
  | (with_reducible refine row0 ?_) | (with_reducible refine row1 ?_) | (with_reducible refine row2 ?_) | (with_reducible refine row3 ?_) | (with_reducible refine row4 ?_) | (with_reducible refine row5 ?_) | (with_reducible refine row6 ?_) | (with_reducible refine row7 ?_) | (with_reducible refine row8 ?_) | (with_reducible refine row9 ?_) | (with_reducible refine row10 ?_) | (with_reducible refine row11 ?_) | (with_reducible refine row12 ?_) | (with_reducible refine row13 ?_) | (with_reducible refine row14 ?_) | (with_reducible refine row15 ?_) | (with_reducible refine row16 ?_) | (with_reducible refine row17 ?_) | (with_reducible refine row18 ?_) | (with_reducible refine row19 ?_) | (with_reducible refine row20 ?_))
/-- a def that shows data, with its promise -/
structure HasG (P : Program) (w : World) (K : PySem.W.Frag) (mg : Str → Option Value) (base : Heap) (x : Str) (k : Nat) (ps : List Str) (S : SpD) where
  f : Addr
  fd : FuncData
  ok : FnG P w K mg base CX0 k f fd ps (toSp K ps.length S)
  mg : mg x = some (.ref f)
  kp : PySem.W.keepIn K (.ref f) = true
  b : Binds K fd ps []
def mAt : Nat → Nat
  | 0 => 100
  | 1 => 640
  | 2 => 2260
  | _ => 7120
def dAt : Nat → Nat
  | 0 => 5
  | 1 => 8
  | 2 => 11
  | _ => 14
theorem mAt_next {i : Nat} (h : i < 3) : 3 * mAt i + 340 = mAt (i + 1) ∧ dAt i + 3 = dAt (i + 1) ∧ dAt i < 12 ∧ mAt i ≤ 2500 ∧ mAt (i + 1) ≤ 8000 ∧ dAt (i + 1) ≤ 50 := by
  have : i = 0 ∨ i = 1 ∨ i = 2 := by omega
  rcases this with rfl | rfl | rfl <;> decide
-- slots: 0:_law_script 1:_law_pen_here 2:_law_turn 3:_law_some 4:_law_again 5:_law_thing
abbrev slaw : Stmt := top 42
theorem sclaw : FnScope ["_law_script", "_law_pen_here", "_law_turn", "_law_some", "_law_again", "_law_thing"] ["_law_script"] (defScope slaw) := ⟨rfl, rfl, rfl, by decide +kernel, rfl, by decide +kernel, by decide +kernel⟩
def S_law : SpD := fun as M R => ∃ ns a, as = [asScript ns a K] ∧ ∀ M', R (.d (.bool true)) M'
def someD : List PyData := [.none, .bool true, .int 0, .str "free", .str "", .tuple [], .list [], .dict [], .list [.str "free"], .tuple [.tuple [.str "free"]], .tuple [.str "Free"], .tuple [.str "free", .tuple []], .tuple [.str "head"]]
theorem some_nice : ∀ x ∈ someD, Nice 20 5 x := by
  intro x hx
  simp only [someD, List.mem_cons, List.not_mem_nil, or_false] at hx
  rcases hx with rfl | rfl | rfl | rfl | rfl | rfl | rfl | rfl | rfl | rfl | rfl | rfl | rfl <;> exact ⟨by decide, by decide, by decide⟩
theorem empty_nice : Nice 40 5 emptyD := ⟨by decide, by decide, by decide⟩
theorem ok_law {f : Addr} {fd : FuncData} (Fn : Fun K "law" "law" slaw f fd) (T : Bt mg) (h__law_pen : Has P w K mg base "_law_pen" 1 ["_law_script"] (S_pen (K := K))) (h__law_image : Has P w K mg base "_law_image" 4 ["_law_pen_here"] S_image)
    (h__law_due : Has P w K mg base "_law_due" 4 ["_law_thing"] S_is_image) (h__law_right : HasG P w K mg base "_law_right" 7 ["_law_thing"] S_right)
    (h__law_bent : Has P w K mg base "_law_bent" 15 ["_law_pen_here", "_law_thing"] (S_bent 12)) (h_empty_file : Has P w K mg base "empty_file" 1 [] S_empty_file) :
    FnG P w K mg base CX0 16 f fd ["_law_script"] (toSp K 1 (S_law (K := K))) := by
  refine def_okG Fn sclaw (fun cdv A outer s H E hgu hr => ?_)
  have hu := hu_of hr
  refine ⟨_, (pss_cons (ps_set (i := 1) sclaw.nd rfl (by first | exact Or.inl rfl | exact Or.inr rfl) (pe_call h__law_pen.ok (hr.mono (by first | decide | (show _ ≤ 3 + _; omega))) (by rfl) h__law_pen.mg h__law_pen.kp h__law_pen.b .nil pass0 (pa_cons (pv 0) pa_nil)))
      (pss_cons (ps_for PassesOwn.never rfl (pi_range1 (by rfl) T.range (pa_cons pe_int pa_nil)) (pg_name (i := 2) sclaw.nd rfl (by first | exact Or.inl rfl | exact Or.inr rfl)) (pss_cons (ps_set (i := 5) sclaw.nd rfl (by first | exact Or.inl rfl | exact Or.inr rfl) (pe_call h__law_image.ok (hr.mono (by first | decide | (show _ ≤ 3 + _; omega))) (by rfl) h__law_image.mg h__law_image.kp h__law_image.b .nil pass0 (pa_cons (pv 1) pa_nil)))
      (pss_cons (ps_if (PW.pt (pw_or (pt_not (pt_val (pe_call h__law_due.ok (hr.mono (by first | decide | (show _ ≤ 3 + _; omega))) (by rfl) h__law_due.mg h__law_due.kp h__law_due.b .nil pass0 (pa_cons (pv 5) pa_nil)))) (pw_or1 (pt_not (pt_val (pe_callG h__law_right.ok hgu (hr.mono (by first | decide | (show _ ≤ 3 + _; omega))) (by rfl) h__law_right.mg h__law_right.kp h__law_right.b .nil pass0 (pa_cons (pv 5) pa_nil))))))) (pss_one (ps_ret pe_bl)) pss_nil)
      (pss_one (ps_for PassesOwn.never rfl (pi_range1 (by rfl) T.range (pa_cons pe_int pa_nil)) (pg_name (i := 4) sclaw.nd rfl (by first | exact Or.inl rfl | exact Or.inr rfl)) (pss_cons (ps_set (i := 5) sclaw.nd rfl (by first | exact Or.inl rfl | exact Or.inr rfl) (pe_call h__law_bent.ok (hr.mono (by first | decide | (show _ ≤ 3 + _; omega))) (by rfl) h__law_bent.mg h__law_bent.kp h__law_bent.b .nil pass0 (pa_cons (pv 1) (pa_cons (pv 5) pa_nil))))
      (pss_one (ps_if (pt_not (pt_val (pe_callG h__law_right.ok hgu (hr.mono (by first | decide | (show _ ≤ 3 + _; omega))) (by rfl) h__law_right.mg h__law_right.kp h__law_right.b .nil pass0 (pa_cons (pv 5) pa_nil)))) (pss_one (ps_ret pe_bl)) pss_nil))))))))
      (pss_cons (ps_set (i := 3) sclaw.nd rfl (by first | exact Or.inl rfl | exact Or.inr rfl) (pe_lst (pa_cons pe_non (pa_cons pe_bl (pa_cons pe_int (pa_cons pe_str (pa_cons pe_str (pa_cons (pe_tup pa_nil) (pa_cons (pe_lst pa_nil) (pa_cons pe_dnewK (pa_cons (pe_lst (pa_cons pe_str pa_nil)) (pa_cons (pe_tup (pa_cons (pe_tup (pa_cons pe_str pa_nil)) pa_nil)) (pa_cons (pe_tup (pa_cons pe_str pa_nil)) (pa_cons (pe_tup (pa_cons pe_str (pa_cons (pe_tup pa_nil) pa_nil))) (pa_cons (pe_tup (pa_cons pe_str pa_nil)) pa_nil)))))))))))))))
      (pss_cons (ps_if (pt_cmpR (show OpR _ _ (rNeD K) from op_neD hr.units) (pe_lc (own := [("_law_thing", 5)]) (g := (gName 5)) (by rfl) sclaw.nd (pi_list (pv 3)) (blkOk_by (own := [("_law_thing", 5)]) (N := ["_law_script", "_law_pen_here", "_law_turn", "_law_some", "_law_again", "_law_thing"]) (sc := defScope slaw) (by decide +kernel)) (fun _ _ _ _ _ => (pg_name (i := 5) sclaw.nd rfl (by first | exact Or.inl rfl | exact Or.inr rfl))) (fun _ _ _ _ _ => (pts_one (pt_not (pt_val (pe_callG h__law_right.ok hgu (hr.mono (by first | decide | (show _ ≤ 3 + _; omega))) (by rfl) h__law_right.mg h__law_right.kp h__law_right.b .nil pass0 (pa_cons (pv 5) pa_nil)))))) (fun _ _ _ _ _ => (pv 5))) (pe_lst pa_nil) (nomark _)) (pss_one (ps_ret pe_bl)) pss_nil)
      (pss_one (ps_ret (pe_cmpR op_eq (pe_callB (show CallR _ _ (rRepr K) from call_repr hgu hr.units) (by rfl) T.repr (by decide +kernel) (pa_cons (pe_call0 h_empty_file.ok (hr.mono (by first | decide | (show _ ≤ 3 + _; omega))) (by rfl) h_empty_file.mg h_empty_file.kp h_empty_file.b .nil pass0) pa_nil)) (pe_callB (show CallR _ _ (rRepr K) from call_repr hgu hr.units) (by rfl) T.repr (by decide +kernel) (pa_cons (pe_tup (pa_cons (pe_tup (pa_cons pe_str (pa_cons pe_int (pa_cons pe_int pa_nil)))) (pa_cons (pe_tup (pa_cons pe_str (pa_cons pe_int (pa_cons (pe_tup pa_nil) (pa_cons pe_int pa_nil))))) (pa_cons (pe_tup (pa_cons pe_str (pa_cons (pe_tup pa_nil) (pa_cons pe_non pa_nil)))) pa_nil)))) pa_nil)) (nomark _)))))))), ?_⟩
  rintro as M R hl ⟨ns, a, rfl, k⟩
  try simp only [cxK]
  show SS K _ [some (asScript ns a K), none, none, none, none, none] M _
  repeat walk_at "v"
  refine ⟨rfl, ns, a, rfl, fun l hl => ?_⟩
  repeat walk_at "v"
  have hp0 : PenOk 3000 (updM M l (.lst (pen (cutL ns none (some 63)) 0 0))) l := ⟨_, 0, 0, updM_same, cut63 ns, by decide, by decide, by decide⟩
  generalize updM M l (.lst (pen (cutL ns none (some 63)) 0 0)) = M0 at hp0 ⊢
  refine ss_cut (fun e M1 => ∃ t2 t4 t5, e = [some (asScript ns a K), some (.m l), t2, none, t4, t5]) (ss_for (ei_r1 ?_)) ?_
  · repeat walk_at "v"
    refine ⟨by decide, ?_⟩
    refine ⟨fun i e M1 => ∃ t2 t4 t5, e = [some (asScript ns a K), some (.m l), t2, none, t4, t5] ∧ i ≤ 12 ∧ PenOk ((12 - i) * 237) M1 l, ⟨none, none, none, rfl, by decide, hp0.less (by decide)⟩, fun _ _ _ _ => trivial, ?_, ?_⟩
    · rintro i x e M1 hx ⟨t2, t4, t5, rfl, hi, h1⟩
      have hi2 : i < 12 := by
        have := (List.getElem?_eq_some_iff.mp hx).1
        simpa [upto] using this
      have hb : (12 - i) * 237 = (12 - (i + 1)) * 237 + 237 := by omega
      generalize hbb : (12 - (i + 1)) * 237 = b at hb
      rw [hb] at h1
      refine sg_name ?_
      refine ss_seq (ss_asg ?_)
      repeat walk_at "v"
      refine ⟨rfl, l, b + 147, rfl, h1, fun y M2 hy h2 n2 => ?_⟩
      repeat walk_at "v"
      have ny := hy.nice
      refine ss_seq (ss_if ?_)
      repeat walk_at "v"
      refine ⟨rfl, y, rfl, Nice.tidy ny (by decide), ?_⟩
      rw [hy.ok]
      repeat walk_at "v"
      refine ⟨rfl, y, 100, 5, rfl, ny, by decide, by decide, ?_⟩
      repeat walk_at "v"
      refine ss_for (ei_r1 ?_)
      repeat walk_at "v"
      refine ⟨by decide, ?_⟩
      refine ⟨fun j e M3 => ∃ u2 u4 z, e = [some (asScript ns a K), some (.m l), u2, none, u4, some (.d z)] ∧ j ≤ 3 ∧ Nice (mAt j) (dAt j) z ∧ PenOk (b + (3 - j) * 49) M3 l, ⟨_, _, y, rfl, by decide, ny, h2⟩, fun _ _ _ _ => trivial, ?_, ?_⟩
      · rintro j x' e M3 hx' ⟨u2, u4, z, rfl, hj, nz, h3⟩
        have hj2 : j < 3 := by
          have := (List.getElem?_eq_some_iff.mp hx').1
          simpa [upto] using this
        obtain ⟨m1, m2, m3, m4, m5, m6⟩ := mAt_next hj2
        refine sg_name ?_
        refine ss_seq (ss_asg ?_)
        repeat walk_at "v"
        refine ⟨rfl, l, b + (3 - (j + 1)) * 49, z, mAt j, dAt j, rfl, nz, m3, m4, h3.less (by omega), fun y' M4 ny' h4 n4 => ?_⟩
        rw [m1, m2] at ny'
        repeat walk_at "v"
        refine ss_if ?_
        repeat walk_at "v"
        refine ⟨rfl, y', _, _, rfl, ny', m5, m6, ?_⟩
        repeat walk_at "v"
        exact ⟨_, _, y', rfl, hj2, ny', h4⟩
      · rintro e M3 ⟨u2, u4, z, rfl, hj, nz, h3⟩
        exact ⟨_, _, _, rfl, hi2, h3.less (by omega)⟩
    · rintro e M1 ⟨t2, t4, t5, rfl, hi, h1⟩
      exact ⟨_, _, _, rfl⟩
  rintro e M1 ⟨t2, t4, t5, rfl⟩
  repeat walk_at "v"
  refine ee_dnew0 ?_
  repeat walk_at "v"
  refine ss_seq (ss_if ?_)
  repeat walk_at "v"
  refine ee_lc (only_name (by simp)) (ei_list ?_)
  repeat walk_at "v"
  refine lc_map (xs := someD) (fun _ => none) trivial ?_ ?_ ?_
  · intro x hx U acc ty tn
    repeat walk_at "v"
    refine ⟨rfl, x, 20, 5, rfl, some_nice x hx, by decide, by decide, ?_⟩
    repeat walk_at "v"
    exact tn rfl
  · have e : someD.filterMap (fun _ : PyData => (none : Option PyData)) = [] := by simp
    rw [e]
    repeat walk_at "v"
    refine rr_neD (.d _) (.d _) (by decide) (by decide) ?_
    rw [eqv_nil]
    repeat walk_at "v"
    refine ffN ?_
    repeat walk_at "v"
    refine ⟨rfl, rfl, ?_⟩
    have en := empty_nice
    repeat walk_at "v"
    refine rc_repr (.d _) (fine_showable en.f) (nice_dep en (by decide)) (en.shown (by decide)) ?_
    repeat walk_at "v"
    refine rc_repr (x := emptyD) (.d _) (fine_showable en.f) (nice_dep en (by decide)) (en.shown (by decide)) ?_
    repeat walk_at "v"
    exact fin_b (k M1) (by simp)
  · decide
end K49

set_option Elab.async false
set_option linter.all false
set_option maxRecDepth 100000
set_option maxHeartbeats 4000000
namespace K49
open PySem PySem.Spec PyProof.Rows L2 DL

/-- what the written dict says -/
def lenE (P : Params) (t : Fin 12 → Tok) : Array DictEntry := #[⟨PyData.keyHash P "head", .str "head" (t 0), .int 3 (t 1)⟩, ⟨PyData.keyHash P "space", .str "space" (t 2), .int 4 (t 3)⟩, ⟨PyData.keyHash P "leaf", .str "leaf" (t 4), .int 3 (t 5)⟩,
  ⟨PyData.keyHash P "inner", .str "inner" (t 6), .int 3 (t 7)⟩, ⟨PyData.keyHash P "piece", .str "piece" (t 8), .int 3 (t 9)⟩, ⟨PyData.keyHash P "free", .str "free" (t 10), .int 1 (t 11)⟩]
theorem ask_mk {K : PySem.W.Frag} {w : World} {a : Addr} {n : Nat} {t0 t1 t2 t3 t4 t5 t6 t7 t8 t9 t10 t11 : Tok}
    (h : K.lookup a = some ⟨.type "dict", none, .dict #[⟨PyData.keyHash w.params "head", .str "head" t0, .int 3 t1⟩, ⟨PyData.keyHash w.params "space", .str "space" t2, .int 4 t3⟩, ⟨PyData.keyHash w.params "leaf", .str "leaf" t4, .int 3 t5⟩,
      ⟨PyData.keyHash w.params "inner", .str "inner" t6, .int 3 t7⟩, ⟨PyData.keyHash w.params "piece", .str "piece" t8, .int 3 t9⟩, ⟨PyData.keyHash w.params "free", .str "free" t10, .int 1 t11⟩] n, #[]⟩) (hs : (a == sysModules) = false) : KAsk K w a lenV := by
  refine ⟨_, n, h, ⟨⟨_, _, rfl, rfl⟩, ⟨_, _, rfl, rfl⟩, ⟨_, _, rfl, rfl⟩, ⟨_, _, rfl, rfl⟩, ⟨_, _, rfl, rfl⟩, ⟨_, _, rfl, rfl⟩, trivial⟩, hs, fun z => ?_⟩
  unfold findBy
  rw [List.find?_toArray]
  simp only [List.find?_cons, Value.isStrOf]
  have b : ∀ x : Str, (x == z) = decide (z = x) := fun x => by
    by_cases e : z = x
    · rw [e]; simp
    · rw [decide_eq_false e]
      exact beq_eq_false_iff_ne.mpr fun q => e q.symm
  simp only [b]
  unfold lenV lenI
  by_cases h1 : z = "head"
  · subst h1; exact ⟨_, rfl⟩
  rw [if_neg h1, decide_eq_false h1]
  by_cases h2 : z = "space"
  · subst h2; exact ⟨_, rfl⟩
  rw [if_neg h2, decide_eq_false h2]
  by_cases h3 : z = "leaf"
  · subst h3; exact ⟨_, rfl⟩
  rw [if_neg h3, decide_eq_false h3]
  by_cases h4 : z = "inner"
  · subst h4; exact ⟨_, rfl⟩
  rw [if_neg h4, decide_eq_false h4]
  by_cases h5 : z = "piece"
  · subst h5; exact ⟨_, rfl⟩
  rw [if_neg h5, decide_eq_false h5]
  by_cases h6 : z = "free"
  · subst h6; exact ⟨_, rfl⟩
  rw [if_neg h6, decide_eq_false h6]
  rfl

theorem all_mk {l : PySem.W.OpenLaw} {w : World} {K : PySem.W.Frag} {h : Heap} {mg : Str → Option Value} {fa : Addr} (X : K.In h) (G : h.Ns mainGlobals mg) (hfa : mg "law" = some (.ref fa))
    {f_is_integer : Addr} {fd_is_integer : FuncData} (a_is_integer : PySem.W.nsIn K mainGlobals "is_integer" = some (some (.ref f_is_integer))) (F_is_integer : Fun K "is_integer" "is_integer" sis_integer f_is_integer fd_is_integer)
    {f_is_key : Addr} {fd_is_key : FuncData} (a_is_key : PySem.W.nsIn K mainGlobals "is_key" = some (some (.ref f_is_key))) (F_is_key : Fun K "is_key" "is_key" sis_key f_is_key fd_is_key)
    {f_is_index : Addr} {fd_is_index : FuncData} (a_is_index : PySem.W.nsIn K mainGlobals "is_index" = some (some (.ref f_is_index))) (F_is_index : Fun K "is_index" "is_index" sis_index f_is_index fd_is_index)
    {f_is_number : Addr} {fd_is_number : FuncData} (a_is_number : PySem.W.nsIn K mainGlobals "is_number" = some (some (.ref f_is_number))) (F_is_number : Fun K "is_number" "is_number" sis_number f_is_number fd_is_number)
    {f_is_text : Addr} {fd_is_text : FuncData} (a_is_text : PySem.W.nsIn K mainGlobals "is_text" = some (some (.ref f_is_text))) (F_is_text : Fun K "is_text" "is_text" sis_text f_is_text fd_is_text)
    {f_is_ascending : Addr} {fd_is_ascending : FuncData} (a_is_ascending : PySem.W.nsIn K mainGlobals "is_ascending" = some (some (.ref f_is_ascending))) (F_is_ascending : Fun K "is_ascending" "is_ascending" sis_ascending f_is_ascending fd_is_ascending)
    {f_are_numbers : Addr} {fd_are_numbers : FuncData} (a_are_numbers : PySem.W.nsIn K mainGlobals "are_numbers" = some (some (.ref f_are_numbers))) (F_are_numbers : Fun K "are_numbers" "are_numbers" sare_numbers f_are_numbers fd_are_numbers)
    {f_is_link : Addr} {fd_is_link : FuncData} (a_is_link : PySem.W.nsIn K mainGlobals "is_link" = some (some (.ref f_is_link))) (F_is_link : Fun K "is_link" "is_link" sis_link f_is_link fd_is_link)
    {f_is_held : Addr} {fd_is_held : FuncData} (a_is_held : PySem.W.nsIn K mainGlobals "is_held" = some (some (.ref f_is_held))) (F_is_held : Fun K "is_held" "is_held" sis_held f_is_held fd_is_held)
    {f_is_held_record : Addr} {fd_is_held_record : FuncData} (a_is_held_record : PySem.W.nsIn K mainGlobals "is_held_record" = some (some (.ref f_is_held_record))) (F_is_held_record : Fun K "is_held_record" "is_held_record" sis_held_record f_is_held_record fd_is_held_record)
    {f_are_held_records : Addr} {fd_are_held_records : FuncData} (a_are_held_records : PySem.W.nsIn K mainGlobals "are_held_records" = some (some (.ref f_are_held_records))) (F_are_held_records : Fun K "are_held_records" "are_held_records" sare_held_records f_are_held_records fd_are_held_records)
    {f_are_separators : Addr} {fd_are_separators : FuncData} (a_are_separators : PySem.W.nsIn K mainGlobals "are_separators" = some (some (.ref f_are_separators))) (F_are_separators : Fun K "are_separators" "are_separators" sare_separators f_are_separators fd_are_separators)
    {f_is_image : Addr} {fd_is_image : FuncData} (a_is_image : PySem.W.nsIn K mainGlobals "is_image" = some (some (.ref f_is_image))) (F_is_image : Fun K "is_image" "is_image" sis_image f_is_image fd_is_image)
    {f_empty_file : Addr} {fd_empty_file : FuncData} (a_empty_file : PySem.W.nsIn K mainGlobals "empty_file" = some (some (.ref f_empty_file))) (F_empty_file : Fun K "empty_file" "empty_file" sempty_file f_empty_file fd_empty_file)
    {f__law_is_number : Addr} {fd__law_is_number : FuncData} (a__law_is_number : PySem.W.nsIn K mainGlobals "_law_is_number" = some (some (.ref f__law_is_number))) (F__law_is_number : Fun K "_law_is_number" "_law_is_number" s_law_is_number f__law_is_number fd__law_is_number)
    {f__law_is_key : Addr} {fd__law_is_key : FuncData} (a__law_is_key : PySem.W.nsIn K mainGlobals "_law_is_key" = some (some (.ref f__law_is_key))) (F__law_is_key : Fun K "_law_is_key" "_law_is_key" s_law_is_key f__law_is_key fd__law_is_key)
    {f__law_is_rising : Addr} {fd__law_is_rising : FuncData} (a__law_is_rising : PySem.W.nsIn K mainGlobals "_law_is_rising" = some (some (.ref f__law_is_rising))) (F__law_is_rising : Fun K "_law_is_rising" "_law_is_rising" s_law_is_rising f__law_is_rising fd__law_is_rising)
    {f__law_is_text : Addr} {fd__law_is_text : FuncData} (a__law_is_text : PySem.W.nsIn K mainGlobals "_law_is_text" = some (some (.ref f__law_is_text))) (F__law_is_text : Fun K "_law_is_text" "_law_is_text" s_law_is_text f__law_is_text fd__law_is_text)
    {f__law_is_held : Addr} {fd__law_is_held : FuncData} (a__law_is_held : PySem.W.nsIn K mainGlobals "_law_is_held" = some (some (.ref f__law_is_held))) (F__law_is_held : Fun K "_law_is_held" "_law_is_held" s_law_is_held f__law_is_held fd__law_is_held)
    {f__law_are_records : Addr} {fd__law_are_records : FuncData} (a__law_are_records : PySem.W.nsIn K mainGlobals "_law_are_records" = some (some (.ref f__law_are_records))) (F__law_are_records : Fun K "_law_are_records" "_law_are_records" s_law_are_records f__law_are_records fd__law_are_records)
    {f__law_are_lower : Addr} {fd__law_are_lower : FuncData} (a__law_are_lower : PySem.W.nsIn K mainGlobals "_law_are_lower" = some (some (.ref f__law_are_lower))) (F__law_are_lower : Fun K "_law_are_lower" "_law_are_lower" s_law_are_lower f__law_are_lower fd__law_are_lower)
    {f__law_due : Addr} {fd__law_due : FuncData} (a__law_due : PySem.W.nsIn K mainGlobals "_law_due" = some (some (.ref f__law_due))) (F__law_due : Fun K "_law_due" "_law_due" s_law_due f__law_due fd__law_due)
    {f__law_draw : Addr} {fd__law_draw : FuncData} (a__law_draw : PySem.W.nsIn K mainGlobals "_law_draw" = some (some (.ref f__law_draw))) (F__law_draw : Fun K "_law_draw" "_law_draw" s_law_draw f__law_draw fd__law_draw)
    {f__law_key : Addr} {fd__law_key : FuncData} (a__law_key : PySem.W.nsIn K mainGlobals "_law_key" = some (some (.ref f__law_key))) (F__law_key : Fun K "_law_key" "_law_key" s_law_key f__law_key fd__law_key)
    {f__law_page : Addr} {fd__law_page : FuncData} (a__law_page : PySem.W.nsIn K mainGlobals "_law_page" = some (some (.ref f__law_page))) (F__law_page : Fun K "_law_page" "_law_page" s_law_page f__law_page fd__law_page)
    {f__law_short : Addr} {fd__law_short : FuncData} (a__law_short : PySem.W.nsIn K mainGlobals "_law_short" = some (some (.ref f__law_short))) (F__law_short : Fun K "_law_short" "_law_short" s_law_short f__law_short fd__law_short)
    {f__law_rising : Addr} {fd__law_rising : FuncData} (a__law_rising : PySem.W.nsIn K mainGlobals "_law_rising" = some (some (.ref f__law_rising))) (F__law_rising : Fun K "_law_rising" "_law_rising" s_law_rising f__law_rising fd__law_rising)
    {f__law_pen : Addr} {fd__law_pen : FuncData} (a__law_pen : PySem.W.nsIn K mainGlobals "_law_pen" = some (some (.ref f__law_pen))) (F__law_pen : Fun K "_law_pen" "_law_pen" s_law_pen f__law_pen fd__law_pen)
    {f__law_image : Addr} {fd__law_image : FuncData} (a__law_image : PySem.W.nsIn K mainGlobals "_law_image" = some (some (.ref f__law_image))) (F__law_image : Fun K "_law_image" "_law_image" s_law_image f__law_image fd__law_image)
    {f__law_odd : Addr} {fd__law_odd : FuncData} (a__law_odd : PySem.W.nsIn K mainGlobals "_law_odd" = some (some (.ref f__law_odd))) (F__law_odd : Fun K "_law_odd" "_law_odd" s_law_odd f__law_odd fd__law_odd)
    {f__law_bent : Addr} {fd__law_bent : FuncData} (a__law_bent : PySem.W.nsIn K mainGlobals "_law_bent" = some (some (.ref f__law_bent))) (F__law_bent : Fun K "_law_bent" "_law_bent" s_law_bent f__law_bent fd__law_bent)
    {f__law_right : Addr} {fd__law_right : FuncData} (a__law_right : PySem.W.nsIn K mainGlobals "_law_right" = some (some (.ref f__law_right))) (F__law_right : Fun K "_law_right" "_law_right" s_law_right f__law_right fd__law_right)
    {f_law : Addr} {fd_law : FuncData} (a_law : PySem.W.nsIn K mainGlobals "law" = some (some (.ref f_law))) (F_law : Fun K "law" "law" slaw f_law fd_law)
    (z_len : PySem.W.nsIn K mainGlobals "len" = some none)
    (z_abs : PySem.W.nsIn K mainGlobals "abs" = some none)
    (z_int : PySem.W.nsIn K mainGlobals "int" = some none)
    (z_bool : PySem.W.nsIn K mainGlobals "bool" = some none)
    (z_str : PySem.W.nsIn K mainGlobals "str" = some none)
    (z_tuple : PySem.W.nsIn K mainGlobals "tuple" = some none)
    (z_list : PySem.W.nsIn K mainGlobals "list" = some none)
    (z_isinstance : PySem.W.nsIn K mainGlobals "isinstance" = some none)
    (z_all : PySem.W.nsIn K mainGlobals "all" = some none)
    (z_ord : PySem.W.nsIn K mainGlobals "ord" = some none)
    (z_zip : PySem.W.nsIn K mainGlobals "zip" = some none)
    (z_repr : PySem.W.nsIn K mainGlobals "repr" = some none)
    (z_range : PySem.W.nsIn K mainGlobals "range" = some none)
    (z_sorted : PySem.W.nsIn K mainGlobals "sorted" = some none)
    (z_enumerate : PySem.W.nsIn K mainGlobals "enumerate" = some none)
    {t_KEY_MOST : Tok} (m_KEY_MOST : PySem.W.nsIn K mainGlobals "KEY_MOST" = some (some (.int (999999999999999) t_KEY_MOST)))
    {t_KEY_LEAST : Tok} (m_KEY_LEAST : PySem.W.nsIn K mainGlobals "KEY_LEAST" = some (some (.int (-999999999999999) t_KEY_LEAST)))
    {t_SHORT_MOST : Tok} (m_SHORT_MOST : PySem.W.nsIn K mainGlobals "SHORT_MOST" = some (some (.int (8) t_SHORT_MOST)))
    {t_VALUE_MOST : Tok} (m_VALUE_MOST : PySem.W.nsIn K mainGlobals "VALUE_MOST" = some (some (.int (40) t_VALUE_MOST)))
    {t_PERCENT : Tok} (m_PERCENT : PySem.W.nsIn K mainGlobals "PERCENT" = some (some (.int (37) t_PERCENT)))
    {aL : Addr} (d_LENGTHS : PySem.W.nsIn K mainGlobals "LENGTHS" = some (some (.ref aL))) (A0 : KAsk K w aL lenV)
    : ∃ fd : FuncData, (∀ (s : Shared) (u : Value), BindsTo s fd ⟨[u], []⟩ [("_law_script", u)]) ∧ ∀ base : Heap, K.In base → base.Ns mainGlobals mg → FnG l.prog w K mg base CX0 16 fa fd ["_law_script"] (toSp K 1 (S_law (K := K))) := by
  have e := hfa.symm.trans (PySem.W.mg_of X G a_law)
  cases e
  have T : Bt mg := ⟨PySem.W.mg_none_of X G z_len, PySem.W.mg_none_of X G z_abs, PySem.W.mg_none_of X G z_int, PySem.W.mg_none_of X G z_bool, PySem.W.mg_none_of X G z_str, PySem.W.mg_none_of X G z_tuple, PySem.W.mg_none_of X G z_list, PySem.W.mg_none_of X G z_isinstance, PySem.W.mg_none_of X G z_all, PySem.W.mg_none_of X G z_ord, PySem.W.mg_none_of X G z_zip, PySem.W.mg_none_of X G z_repr, PySem.W.mg_none_of X G z_range, PySem.W.mg_none_of X G z_sorted, PySem.W.mg_none_of X G z_enumerate, ⟨_, PySem.W.mg_of X G m_KEY_MOST, ⟨_, rfl⟩⟩, ⟨_, PySem.W.mg_of X G m_KEY_LEAST, ⟨_, rfl⟩⟩, ⟨_, PySem.W.mg_of X G m_SHORT_MOST, ⟨_, rfl⟩⟩, ⟨_, PySem.W.mg_of X G m_VALUE_MOST, ⟨_, rfl⟩⟩, ⟨_, PySem.W.mg_of X G m_PERCENT, ⟨_, rfl⟩⟩⟩
  have kb_is_image : KBinds K fd_is_image ["value"] ["value"] (fun us ws => us ++ ws) (fun vs zs => vs ++ zs) := by
    refine kbinds1 F_is_image ?_
    intro kV doc pm an cdv ct us ws hl
    match us, ws, hl with
    | [_], [], _ => rfl
    | [], [_], _ => rfl
  have b_is_integer := F_is_integer.binds (ps := ["value"]) fun _ _ _ _ _ _ us hl => match us, hl with | [_], _ => rfl
  have b_is_key := F_is_key.binds (ps := ["value"]) fun _ _ _ _ _ _ us hl => match us, hl with | [_], _ => rfl
  have b_is_index := F_is_index.binds (ps := ["value", "many"]) fun _ _ _ _ _ _ us hl => match us, hl with | [_, _], _ => rfl
  have b_is_number := F_is_number.binds (ps := ["value"]) fun _ _ _ _ _ _ us hl => match us, hl with | [_], _ => rfl
  have b_is_text := F_is_text.binds (ps := ["value", "least", "most"]) fun _ _ _ _ _ _ us hl => match us, hl with | [_, _, _], _ => rfl
  have b_is_ascending := F_is_ascending.binds (ps := ["row"]) fun _ _ _ _ _ _ us hl => match us, hl with | [_], _ => rfl
  have b_are_numbers := F_are_numbers.binds (ps := ["value"]) fun _ _ _ _ _ _ us hl => match us, hl with | [_], _ => rfl
  have b_is_link := F_is_link.binds (ps := ["value"]) fun _ _ _ _ _ _ us hl => match us, hl with | [_], _ => rfl
  have b_is_held := F_is_held.binds (ps := ["value"]) fun _ _ _ _ _ _ us hl => match us, hl with | [_], _ => rfl
  have b_is_held_record := F_is_held_record.binds (ps := ["value"]) fun _ _ _ _ _ _ us hl => match us, hl with | [_], _ => rfl
  have b_are_held_records := F_are_held_records.binds (ps := ["value"]) fun _ _ _ _ _ _ us hl => match us, hl with | [_], _ => rfl
  have b_are_separators := F_are_separators.binds (ps := ["value"]) fun _ _ _ _ _ _ us hl => match us, hl with | [_], _ => rfl
  have b_is_image := F_is_image.binds (ps := ["value"]) fun _ _ _ _ _ _ us hl => match us, hl with | [_], _ => rfl
  have b_empty_file := F_empty_file.binds (ps := []) fun _ _ _ _ _ _ us hl => match us, hl with | [], _ => rfl
  have b__law_is_number := F__law_is_number.binds (ps := ["_law_thing"]) fun _ _ _ _ _ _ us hl => match us, hl with | [_], _ => rfl
  have b__law_is_key := F__law_is_key.binds (ps := ["_law_thing"]) fun _ _ _ _ _ _ us hl => match us, hl with | [_], _ => rfl
  have b__law_is_rising := F__law_is_rising.binds (ps := ["_law_thing", "_law_are_keys"]) fun _ _ _ _ _ _ us hl => match us, hl with | [_, _], _ => rfl
  have b__law_is_text := F__law_is_text.binds (ps := ["_law_thing", "_law_least", "_law_most"]) fun _ _ _ _ _ _ us hl => match us, hl with | [_, _, _], _ => rfl
  have b__law_is_held := F__law_is_held.binds (ps := ["_law_thing"]) fun _ _ _ _ _ _ us hl => match us, hl with | [_], _ => rfl
  have b__law_are_records := F__law_are_records.binds (ps := ["_law_thing"]) fun _ _ _ _ _ _ us hl => match us, hl with | [_], _ => rfl
  have b__law_are_lower := F__law_are_lower.binds (ps := ["_law_separators", "_law_thing"]) fun _ _ _ _ _ _ us hl => match us, hl with | [_, _], _ => rfl
  have b__law_due := F__law_due.binds (ps := ["_law_thing"]) fun _ _ _ _ _ _ us hl => match us, hl with | [_], _ => rfl
  have b__law_draw := F__law_draw.binds (ps := ["_law_pen_here", "_law_bound"]) fun _ _ _ _ _ _ us hl => match us, hl with | [_, _], _ => rfl
  have b__law_key := F__law_key.binds (ps := ["_law_pen_here"]) fun _ _ _ _ _ _ us hl => match us, hl with | [_], _ => rfl
  have b__law_page := F__law_page.binds (ps := ["_law_pen_here"]) fun _ _ _ _ _ _ us hl => match us, hl with | [_], _ => rfl
  have b__law_short := F__law_short.binds (ps := ["_law_pen_here", "_law_least"]) fun _ _ _ _ _ _ us hl => match us, hl with | [_, _], _ => rfl
  have b__law_rising := F__law_rising.binds (ps := ["_law_pen_here", "_law_most"]) fun _ _ _ _ _ _ us hl => match us, hl with | [_, _], _ => rfl
  have b__law_pen := F__law_pen.binds (ps := ["_law_script"]) fun _ _ _ _ _ _ us hl => match us, hl with | [_], _ => rfl
  have b__law_image := F__law_image.binds (ps := ["_law_pen_here"]) fun _ _ _ _ _ _ us hl => match us, hl with | [_], _ => rfl
  have b__law_odd := F__law_odd.binds (ps := ["_law_pen_here", "_law_thing"]) fun _ _ _ _ _ _ us hl => match us, hl with | [_, _], _ => rfl
  have b__law_bent := F__law_bent.binds (ps := ["_law_pen_here", "_law_thing"]) fun _ _ _ _ _ _ us hl => match us, hl with | [_, _], _ => rfl
  have b__law_right := F__law_right.binds (ps := ["_law_thing"]) fun _ _ _ _ _ _ us hl => match us, hl with | [_], _ => rfl
  have b_law := F_law.binds (ps := ["_law_script"]) fun _ _ _ _ _ _ us hl => match us, hl with | [_], _ => rfl
  refine ⟨fd_law, fun s u => ?_, fun base _ _ => ?_⟩
  · obtain ⟨oc, od, kV, doc, pm, an, cdv, ct, osl, rfl, lk, hcd⟩ := F_law.ex
    exact .of_eq rfl
  have h_is_integer : Has l.prog w K mg base "is_integer" 1 ["value"] S_is_integer := ⟨f_is_integer, fd_is_integer, ok_is_integer F_is_integer T, PySem.W.mg_of X G a_is_integer, F_is_integer.kp, b_is_integer⟩
  have h_is_key : Has l.prog w K mg base "is_key" 2 ["value"] S_is_key := ⟨f_is_key, fd_is_key, ok_is_key F_is_key T h_is_integer, PySem.W.mg_of X G a_is_key, F_is_key.kp, b_is_key⟩
  have h_is_index : Has l.prog w K mg base "is_index" 2 ["value", "many"] S_is_index := ⟨f_is_index, fd_is_index, ok_is_index F_is_index T h_is_integer, PySem.W.mg_of X G a_is_index, F_is_index.kp, b_is_index⟩
  have h_is_number : Has l.prog w K mg base "is_number" 2 ["value"] S_is_number := ⟨f_is_number, fd_is_number, ok_is_number F_is_number T h_is_integer, PySem.W.mg_of X G a_is_number, F_is_number.kp, b_is_number⟩
  have h_is_text : Has l.prog w K mg base "is_text" 1 ["value", "least", "most"] S_is_text := ⟨f_is_text, fd_is_text, ok_is_text F_is_text T, PySem.W.mg_of X G a_is_text, F_is_text.kp, b_is_text⟩
  have h_is_ascending : Has l.prog w K mg base "is_ascending" 1 ["row"] S_is_ascending := ⟨f_is_ascending, fd_is_ascending, ok_is_ascending F_is_ascending T, PySem.W.mg_of X G a_is_ascending, F_is_ascending.kp, b_is_ascending⟩
  have h_are_numbers : Has l.prog w K mg base "are_numbers" 3 ["value"] S_are_numbers := ⟨f_are_numbers, fd_are_numbers, ok_are_numbers F_are_numbers T h_is_number, PySem.W.mg_of X G a_are_numbers, F_are_numbers.kp, b_are_numbers⟩
  have h_is_link : Has l.prog w K mg base "is_link" 3 ["value"] S_is_link := ⟨f_is_link, fd_is_link, ok_is_link F_is_link T h_is_number, PySem.W.mg_of X G a_is_link, F_is_link.kp, b_is_link⟩
  have h_is_held : Has l.prog w K mg base "is_held" 3 ["value"] S_is_held := ⟨f_is_held, fd_is_held, ok_is_held F_is_held T h_is_text h_is_number h_is_index, PySem.W.mg_of X G a_is_held, F_is_held.kp, b_is_held⟩
  have h_is_held_record : Has l.prog w K mg base "is_held_record" 4 ["value"] S_is_held_record := ⟨f_is_held_record, fd_is_held_record, ok_is_held_record F_is_held_record T h_is_key h_is_held, PySem.W.mg_of X G a_is_held_record, F_is_held_record.kp, b_is_held_record⟩
  have h_are_held_records : Has l.prog w K mg base "are_held_records" 5 ["value"] S_are_held_records := ⟨f_are_held_records, fd_are_held_records, ok_are_held_records F_are_held_records T h_is_held_record h_is_ascending, PySem.W.mg_of X G a_are_held_records, F_are_held_records.kp, b_are_held_records⟩
  have h_are_separators : Has l.prog w K mg base "are_separators" 3 ["value"] S_are_separators := ⟨f_are_separators, fd_are_separators, ok_are_separators F_are_separators T h_is_key h_is_ascending, PySem.W.mg_of X G a_are_separators, F_are_separators.kp, b_are_separators⟩
  let h_is_image : Has l.prog w K mg base "is_image" 6 ["value"] S_is_image := ⟨f_is_image, fd_is_image, ok_is_image F_is_image T ⟨_, PySem.W.mg_of X G d_LENGTHS, rfl⟩ A0 h_is_number h_are_numbers h_is_ascending h_are_held_records h_is_link h_are_separators h_is_text, PySem.W.mg_of X G a_is_image, F_is_image.kp, b_is_image⟩
  have h_empty_file : Has l.prog w K mg base "empty_file" 1 [] S_empty_file := ⟨f_empty_file, fd_empty_file, ok_empty_file F_empty_file T, PySem.W.mg_of X G a_empty_file, F_empty_file.kp, b_empty_file⟩
  have h__law_is_number : Has l.prog w K mg base "_law_is_number" 1 ["_law_thing"] S_is_number := ⟨f__law_is_number, fd__law_is_number, ok__law_is_number F__law_is_number T, PySem.W.mg_of X G a__law_is_number, F__law_is_number.kp, b__law_is_number⟩
  have h__law_is_key : Has l.prog w K mg base "_law_is_key" 1 ["_law_thing"] S_is_key := ⟨f__law_is_key, fd__law_is_key, ok__law_is_key F__law_is_key T, PySem.W.mg_of X G a__law_is_key, F__law_is_key.kp, b__law_is_key⟩
  have h__law_is_rising : Has l.prog w K mg base "_law_is_rising" 2 ["_law_thing", "_law_are_keys"] S_rising := ⟨f__law_is_rising, fd__law_is_rising, ok__law_is_rising F__law_is_rising T h__law_is_key h__law_is_number, PySem.W.mg_of X G a__law_is_rising, F__law_is_rising.kp, b__law_is_rising⟩
  have h__law_is_text : Has l.prog w K mg base "_law_is_text" 1 ["_law_thing", "_law_least", "_law_most"] S_is_text := ⟨f__law_is_text, fd__law_is_text, ok__law_is_text F__law_is_text T, PySem.W.mg_of X G a__law_is_text, F__law_is_text.kp, b__law_is_text⟩
  have h__law_is_held : Has l.prog w K mg base "_law_is_held" 2 ["_law_thing"] S_is_held := ⟨f__law_is_held, fd__law_is_held, ok__law_is_held F__law_is_held T h__law_is_text h__law_is_number, PySem.W.mg_of X G a__law_is_held, F__law_is_held.kp, b__law_is_held⟩
  have h__law_are_records : Has l.prog w K mg base "_law_are_records" 3 ["_law_thing"] S_are_held_records := ⟨f__law_are_records, fd__law_are_records, ok__law_are_records F__law_are_records T h__law_is_held h__law_is_rising, PySem.W.mg_of X G a__law_are_records, F__law_are_records.kp, b__law_are_records⟩
  have h__law_are_lower : Has l.prog w K mg base "_law_are_lower" 2 ["_law_separators", "_law_thing"] S_are_lower := ⟨f__law_are_lower, fd__law_are_lower, ok__law_are_lower F__law_are_lower T h__law_is_number, PySem.W.mg_of X G a__law_are_lower, F__law_are_lower.kp, b__law_are_lower⟩
  have h__law_due : Has l.prog w K mg base "_law_due" 4 ["_law_thing"] S_is_image := ⟨f__law_due, fd__law_due, ok__law_due F__law_due T h__law_is_number h__law_is_rising h__law_are_lower h__law_are_records h__law_is_text, PySem.W.mg_of X G a__law_due, F__law_due.kp, b__law_due⟩
  have h__law_draw : Has l.prog w K mg base "_law_draw" 1 ["_law_pen_here", "_law_bound"] S_draw := ⟨f__law_draw, fd__law_draw, ok__law_draw F__law_draw T, PySem.W.mg_of X G a__law_draw, F__law_draw.kp, b__law_draw⟩
  have h__law_key : Has l.prog w K mg base "_law_key" 2 ["_law_pen_here"] S_key := ⟨f__law_key, fd__law_key, ok__law_key F__law_key T h__law_draw, PySem.W.mg_of X G a__law_key, F__law_key.kp, b__law_key⟩
  have h__law_page : Has l.prog w K mg base "_law_page" 2 ["_law_pen_here"] S_page := ⟨f__law_page, fd__law_page, ok__law_page F__law_page T h__law_draw, PySem.W.mg_of X G a__law_page, F__law_page.kp, b__law_page⟩
  have h__law_short : Has l.prog w K mg base "_law_short" 2 ["_law_pen_here", "_law_least"] S_short := ⟨f__law_short, fd__law_short, ok__law_short F__law_short T h__law_draw, PySem.W.mg_of X G a__law_short, F__law_short.kp, b__law_short⟩
  have h__law_rising : Has l.prog w K mg base "_law_rising" 3 ["_law_pen_here", "_law_most"] S_ascending := ⟨f__law_rising, fd__law_rising, ok__law_rising F__law_rising T h__law_draw h__law_key, PySem.W.mg_of X G a__law_rising, F__law_rising.kp, b__law_rising⟩
  have h__law_pen : Has l.prog w K mg base "_law_pen" 1 ["_law_script"] (S_pen (K := K)) := ⟨f__law_pen, fd__law_pen, ok__law_pen F__law_pen T, PySem.W.mg_of X G a__law_pen, F__law_pen.kp, b__law_pen⟩
  have h__law_image : Has l.prog w K mg base "_law_image" 4 ["_law_pen_here"] S_image := ⟨f__law_image, fd__law_image, ok__law_image F__law_image T h__law_draw h__law_page h__law_short h__law_rising, PySem.W.mg_of X G a__law_image, F__law_image.kp, b__law_image⟩
  have h__law_odd : Has l.prog w K mg base "_law_odd" 2 ["_law_pen_here", "_law_thing"] S_odd := ⟨f__law_odd, fd__law_odd, ok__law_odd F__law_odd T h__law_draw, PySem.W.mg_of X G a__law_odd, F__law_odd.kp, b__law_odd⟩
  have h__law_bent : Has l.prog w K mg base "_law_bent" 15 ["_law_pen_here", "_law_thing"] (S_bent 12) := ⟨f__law_bent, fd__law_bent, ok__law_bent F__law_bent T h__law_draw h__law_odd (PySem.W.mg_of X G a__law_bent) F__law_bent.kp b__law_bent 12 (by decide), PySem.W.mg_of X G a__law_bent, F__law_bent.kp, b__law_bent⟩
  have h__law_right : HasG l.prog w K mg base "_law_right" 7 ["_law_thing"] S_right := ⟨f__law_right, fd__law_right, ok__law_right F__law_right T h_is_image kb_is_image h__law_due, PySem.W.mg_of X G a__law_right, F__law_right.kp, b__law_right⟩
  exact ok_law F_law T h__law_pen h__law_image h__law_due h__law_right h__law_bent h_empty_file

end K49
open PySem PySem.W PyProof.Rows
set_option maxRecDepth 100000 in
set_option maxHeartbeats 0 in
theorem PySem.Challenge.cw_splitscar_k49_images_of_any_value_holds : PySem.Challenge.rw_splitscar_k49_images_of_any_value.Holds := by
  w_on; o_law; k_head; (case hw => w_witness2)
  k_fill
  refine DL.walk_ofG (l := PySem.Challenge.rw_splitscar_k49_images_of_any_value) (n := 63) (k := 16) (x := "_law_script") (sp := fun K => DL.toSp K 1 (K49.S_law (K := K))) rfl (by decide) rfl ⟨rfl, by decide, by decide⟩ (fun w h Y => PySem.W.kIn_of Y) ?F ?hsp
  case hsp => exact (fun K H a ns hl hb hO hS => ⟨rfl, H, (fun _ => none), [DL.asScript ns a K], (fun v _ => v = .d (.bool true)), .cons (fun G e => ⟨rfl, e.seq hS⟩) .nil, ⟨L2.Same.refl H, fun _ _ z => nomatch z⟩, ⟨ns, a, rfl, fun _ => rfl⟩, fun v b G' M' H' _ r _ q => by
    subst q
    exact DL.dp_bl r⟩)
  case F =>
    intro w mg fa h KX G hmg
    refine' K49.all_mk KX G hmg ?a_is_integer (L2.fun_mk ?l_is_integer ?c_is_integer ?k_is_integer) ?a_is_key (L2.fun_mk ?l_is_key ?c_is_key ?k_is_key) ?a_is_index (L2.fun_mk ?l_is_index ?c_is_index ?k_is_index) ?a_is_number (L2.fun_mk ?l_is_number ?c_is_number ?k_is_number) ?a_is_text (L2.fun_mk ?l_is_text ?c_is_text ?k_is_text) ?a_is_ascending (L2.fun_mk ?l_is_ascending ?c_is_ascending ?k_is_ascending) ?a_are_numbers (L2.fun_mk ?l_are_numbers ?c_are_numbers ?k_are_numbers) ?a_is_link (L2.fun_mk ?l_is_link ?c_is_link ?k_is_link) ?a_is_held (L2.fun_mk ?l_is_held ?c_is_held ?k_is_held) ?a_is_held_record (L2.fun_mk ?l_is_held_record ?c_is_held_record ?k_is_held_record) ?a_are_held_records (L2.fun_mk ?l_are_held_records ?c_are_held_records ?k_are_held_records) ?a_are_separators (L2.fun_mk ?l_are_separators ?c_are_separators ?k_are_separators) ?a_is_image (L2.fun_mk ?l_is_image ?c_is_image ?k_is_image) ?a_empty_file (L2.fun_mk ?l_empty_file ?c_empty_file ?k_empty_file) ?a__law_is_number (L2.fun_mk ?l__law_is_number ?c__law_is_number ?k__law_is_number) ?a__law_is_key (L2.fun_mk ?l__law_is_key ?c__law_is_key ?k__law_is_key) ?a__law_is_rising (L2.fun_mk ?l__law_is_rising ?c__law_is_rising ?k__law_is_rising) ?a__law_is_text (L2.fun_mk ?l__law_is_text ?c__law_is_text ?k__law_is_text) ?a__law_is_held (L2.fun_mk ?l__law_is_held ?c__law_is_held ?k__law_is_held) ?a__law_are_records (L2.fun_mk ?l__law_are_records ?c__law_are_records ?k__law_are_records) ?a__law_are_lower (L2.fun_mk ?l__law_are_lower ?c__law_are_lower ?k__law_are_lower) ?a__law_due (L2.fun_mk ?l__law_due ?c__law_due ?k__law_due) ?a__law_draw (L2.fun_mk ?l__law_draw ?c__law_draw ?k__law_draw) ?a__law_key (L2.fun_mk ?l__law_key ?c__law_key ?k__law_key) ?a__law_page (L2.fun_mk ?l__law_page ?c__law_page ?k__law_page) ?a__law_short (L2.fun_mk ?l__law_short ?c__law_short ?k__law_short) ?a__law_rising (L2.fun_mk ?l__law_rising ?c__law_rising ?k__law_rising) ?a__law_pen (L2.fun_mk ?l__law_pen ?c__law_pen ?k__law_pen) ?a__law_image (L2.fun_mk ?l__law_image ?c__law_image ?k__law_image) ?a__law_odd (L2.fun_mk ?l__law_odd ?c__law_odd ?k__law_odd) ?a__law_bent (L2.fun_mk ?l__law_bent ?c__law_bent ?k__law_bent) ?a__law_right (L2.fun_mk ?l__law_right ?c__law_right ?k__law_right) ?a_law (L2.fun_mk ?l_law ?c_law ?k_law) ?z_len ?z_abs ?z_int ?z_bool ?z_str ?z_tuple ?z_list ?z_isinstance ?z_all ?z_ord ?z_zip ?z_repr ?z_range ?z_sorted ?z_enumerate ?m_KEY_MOST ?m_KEY_LEAST ?m_SHORT_MOST ?m_VALUE_MOST ?m_PERCENT ?d_LENGTHS ?A0
    (case a_is_integer => k_is)
    (case l_is_integer => k_is)
    (case c_is_integer => k_is)
    (case k_is_integer => k_is)
    (case a_is_key => k_is)
    (case l_is_key => k_is)
    (case c_is_key => k_is)
    (case k_is_key => k_is)
    (case a_is_index => k_is)
    (case l_is_index => k_is)
    (case c_is_index => k_is)
    (case k_is_index => k_is)
    (case a_is_number => k_is)
    (case l_is_number => k_is)
    (case c_is_number => k_is)
    (case k_is_number => k_is)
    (case a_is_text => k_is)
    (case l_is_text => k_is)
    (case c_is_text => k_is)
    (case k_is_text => k_is)
    (case a_is_ascending => k_is)
    (case l_is_ascending => k_is)
    (case c_is_ascending => k_is)
    (case k_is_ascending => k_is)
    (case a_are_numbers => k_is)
    (case l_are_numbers => k_is)
    (case c_are_numbers => k_is)
    (case k_are_numbers => k_is)
    (case a_is_link => k_is)
    (case l_is_link => k_is)
    (case c_is_link => k_is)
    (case k_is_link => k_is)
    (case a_is_held => k_is)
    (case l_is_held => k_is)
    (case c_is_held => k_is)
    (case k_is_held => k_is)
    (case a_is_held_record => k_is)
    (case l_is_held_record => k_is)
    (case c_is_held_record => k_is)
    (case k_is_held_record => k_is)
    (case a_are_held_records => k_is)
    (case l_are_held_records => k_is)
    (case c_are_held_records => k_is)
    (case k_are_held_records => k_is)
    (case a_are_separators => k_is)
    (case l_are_separators => k_is)
    (case c_are_separators => k_is)
    (case k_are_separators => k_is)
    (case a_is_image => k_is)
    (case l_is_image => k_is)
    (case c_is_image => k_is)
    (case k_is_image => k_is)
    (case a_empty_file => k_is)
    (case l_empty_file => k_is)
    (case c_empty_file => k_is)
    (case k_empty_file => k_is)
    (case a__law_is_number => k_is)
    (case l__law_is_number => k_is)
    (case c__law_is_number => k_is)
    (case k__law_is_number => k_is)
    (case a__law_is_key => k_is)
    (case l__law_is_key => k_is)
    (case c__law_is_key => k_is)
    (case k__law_is_key => k_is)
    (case a__law_is_rising => k_is)
    (case l__law_is_rising => k_is)
    (case c__law_is_rising => k_is)
    (case k__law_is_rising => k_is)
    (case a__law_is_text => k_is)
    (case l__law_is_text => k_is)
    (case c__law_is_text => k_is)
    (case k__law_is_text => k_is)
    (case a__law_is_held => k_is)
    (case l__law_is_held => k_is)
    (case c__law_is_held => k_is)
    (case k__law_is_held => k_is)
    (case a__law_are_records => k_is)
    (case l__law_are_records => k_is)
    (case c__law_are_records => k_is)
    (case k__law_are_records => k_is)
    (case a__law_are_lower => k_is)
    (case l__law_are_lower => k_is)
    (case c__law_are_lower => k_is)
    (case k__law_are_lower => k_is)
    (case a__law_due => k_is)
    (case l__law_due => k_is)
    (case c__law_due => k_is)
    (case k__law_due => k_is)
    (case a__law_draw => k_is)
    (case l__law_draw => k_is)
    (case c__law_draw => k_is)
    (case k__law_draw => k_is)
    (case a__law_key => k_is)
    (case l__law_key => k_is)
    (case c__law_key => k_is)
    (case k__law_key => k_is)
    (case a__law_page => k_is)
    (case l__law_page => k_is)
    (case c__law_page => k_is)
    (case k__law_page => k_is)
    (case a__law_short => k_is)
    (case l__law_short => k_is)
    (case c__law_short => k_is)
    (case k__law_short => k_is)
    (case a__law_rising => k_is)
    (case l__law_rising => k_is)
    (case c__law_rising => k_is)
    (case k__law_rising => k_is)
    (case a__law_pen => k_is)
    (case l__law_pen => k_is)
    (case c__law_pen => k_is)
    (case k__law_pen => k_is)
    (case a__law_image => k_is)
    (case l__law_image => k_is)
    (case c__law_image => k_is)
    (case k__law_image => k_is)
    (case a__law_odd => k_is)
    (case l__law_odd => k_is)
    (case c__law_odd => k_is)
    (case k__law_odd => k_is)
    (case a__law_bent => k_is)
    (case l__law_bent => k_is)
    (case c__law_bent => k_is)
    (case k__law_bent => k_is)
    (case a__law_right => k_is)
    (case l__law_right => k_is)
    (case c__law_right => k_is)
    (case k__law_right => k_is)
    (case a_law => k_is)
    (case l_law => k_is)
    (case c_law => k_is)
    (case k_law => k_is)
    (case z_len => k_is)
    (case z_abs => k_is)
    (case z_int => k_is)
    (case z_bool => k_is)
    (case z_str => k_is)
    (case z_tuple => k_is)
    (case z_list => k_is)
    (case z_isinstance => k_is)
    (case z_all => k_is)
    (case z_ord => k_is)
    (case z_zip => k_is)
    (case z_repr => k_is)
    (case z_range => k_is)
    (case z_sorted => k_is)
    (case z_enumerate => k_is)
    (case m_KEY_MOST => k_is)
    (case m_KEY_LEAST => k_is)
    (case m_SHORT_MOST => k_is)
    (case m_VALUE_MOST => k_is)
    (case m_PERCENT => k_is)
    (case d_LENGTHS => k_is)
    (case A0 => exact K49.ask_mk (by k_is) (by decide))
