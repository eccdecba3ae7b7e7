import PyProof.Rows.All
import Wide.All
import OpenK.AllK
import Wide.FinOn
import HandS.Base
import HandS.Call
import HandS.Words
import HandS.List
import HandS.ExcOwn
import HandS.Conv
import HandS.IsInst
import HandS.Iter
import HandS.Comp
import HandS.Dict
import HandS.WordsList
import HandS.WordsDict
import HandS.WordsExc
import HandS.TupAny
import HandS.Codes
import HandS.Text
import HandS.SortInts
import HandS.TupSets
import HandS.SetBool
import HandS.SetKeys
import HandS.Strs
import HandS.SortOrd
import KE.KSortTupAny
import HandS.Small
import HandS.More
import KE.LtData
import HandS.Style
import HandS.SetFor
import PySem.Challenge.RW_wholestakes_k03_whole_letters_and_places
set_option Elab.async false
set_option linter.all false
section
set_option maxRecDepth 100000
/-! Vl: Python's data as values; a state of a def without the heap. -/
namespace Vl
open PySem L2

/-- deep data that is never changed again -/
inductive D where
  | non | bl (b : Bool) | int (i : Int) | str (x : Str) | ty (n : String) | ref (a : Addr)
  | tup (xs : List D) | lst (xs : List D) | dic (kvs : List (Key × D)) | dit (kvs : List (List Key × D)) | obj (C : Addr) (fs : List (Str × D))

/-- data owned by a slot: it may be changed -/
inductive T where
  | v (d : D) | lst (ts : List T) | dic (kvs : List (Key × T)) | dit (kvs : List (List Key × T)) | obj (C : Addr) (fs : List (Str × T)) | at_ (a : Addr) (t : T)

/-! the data when it is let go as it is -/
mutual
def T.d : T → D
  | .v d => d
  | .lst ts => .lst (T.dL ts)
  | .dic kvs => .dic (T.dK kvs)
  | .dit kvs => .dit (T.dT kvs)
  | .obj C fs => .obj C (T.dF fs)
  | .at_ _ t => T.d t
def T.dL : List T → List D
  | [] => []
  | t :: ts => T.d t :: T.dL ts
def T.dK : List (Key × T) → List (Key × D)
  | [] => []
  | (k, t) :: ts => (k, T.d t) :: T.dK ts
def T.dT : List (List Key × T) → List (List Key × D)
  | [] => []
  | (k, t) :: ts => (k, T.d t) :: T.dT ts
def T.dF : List (Str × T) → List (Str × D)
  | [] => []
  | (k, t) :: ts => (k, T.d t) :: T.dF ts
end
theorem T.dL_map : ∀ ts : List T, T.dL ts = ts.map T.d
  | [] => by simp [T.dL]
  | t :: ts => by simp [T.dL, T.dL_map ts]
theorem T.dK_map : ∀ ts : List (Key × T), T.dK ts = ts.map fun p => (p.1, p.2.d)
  | [] => by simp [T.dK]
  | (k, t) :: ts => by simp [T.dK, T.dK_map ts]
theorem T.dT_map : ∀ ts : List (List Key × T), T.dT ts = ts.map fun p => (p.1, p.2.d)
  | [] => by simp [T.dT]
  | (k, t) :: ts => by simp [T.dT, T.dT_map ts]
theorem T.dF_map : ∀ ts : List (Str × T), T.dF ts = ts.map fun p => (p.1, p.2.d)
  | [] => by simp [T.dF]
  | (k, t) :: ts => by simp [T.dF, T.dF_map ts]
theorem T.d_v (d : D) : (T.v d).d = d := by rw [T.d]
theorem T.d_lst (ts : List T) : (T.lst ts).d = .lst (ts.map T.d) := by rw [T.d, T.dL_map]
theorem T.d_dic (kvs : List (Key × T)) : (T.dic kvs).d = .dic (kvs.map fun p => (p.1, p.2.d)) := by rw [T.d, T.dK_map]
theorem T.d_dit (kvs : List (List Key × T)) : (T.dit kvs).d = .dit (kvs.map fun p => (p.1, p.2.d)) := by rw [T.d, T.dT_map]
theorem T.d_obj (C : Addr) (fs : List (Str × T)) : (T.obj C fs).d = .obj C (fs.map fun p => (p.1, p.2.d)) := by rw [T.d, T.dF_map]
theorem T.d_at (a : Addr) (t : T) : (T.at_ a t).d = t.d := by rw [T.d]

mutual
inductive Den (K : PySem.W.Frag) (F : Hp) : V → D → Prop
  | non : Den K F .non .non
  | bl (b : Bool) : Den K F (.bl b) (.bl b)
  | int (i : Int) : Den K F (.int i) (.int i)
  | str (x : Str) : Den K F (.str x) (.str x)
  | ty (n : String) : Den K F (.ty n) (.ty n)
  | ref (a : Addr) : Den K F (.ref a) (.ref a)
  | tup {a : Addr} {xs : List V} {ds : List D} : F a = some (.tup xs) → DenL K F xs ds → Den K F (.ref a) (.tup ds)
  | lst {a : Addr} {xs : List V} {ds : List D} : SqL K F a xs → DenL K F xs ds → Den K F (.ref a) (.lst ds)
  | dic {a : Addr} {kvs : List (Key × V)} {ds : List (Key × D)} : Rd F a (.dK kvs) → kvs.map (·.1) = ds.map (·.1) → DenL K F (kvs.map (·.2)) (ds.map (·.2)) → Den K F (.ref a) (.dic ds)
  | dit {a : Addr} {kvs : List (List Key × V)} {ds : List (List Key × D)} : Rd F a (.dT kvs) → kvs.map (·.1) = ds.map (·.1) → DenL K F (kvs.map (·.2)) (ds.map (·.2)) → Den K F (.ref a) (.dit ds)
  | obj {a C dx : Addr} {fs : List (Str × V)} {ds : List (Str × D)} : F a = some (.ins C dx fs) → fs.map (·.1) = ds.map (·.1) → DenL K F (fs.map (·.2)) (ds.map (·.2)) → Den K F (.ref a) (.obj C ds)
inductive DenL (K : PySem.W.Frag) (F : Hp) : List V → List D → Prop
  | nil : DenL K F [] []
  | cons {x : V} {d : D} {xs : List V} {ds : List D} : Den K F x d → DenL K F xs ds → DenL K F (x :: xs) (d :: ds)
end

theorem rd_ex {F F' : Hp} {a : Addr} {u : HO} (e : Same F F') (h : Rd F a u) : Rd F' a u := by
  rcases h with h | ⟨o, h⟩
  · exact Or.inl (e a _ h)
  · exact Or.inr ⟨o, e a _ h⟩
theorem sqL_ex {K : PySem.W.Frag} {F F' : Hp} {a : Addr} {xs : List V} (e : Same F F') (h : SqL K F a xs) : SqL K F' a xs := e.seq h
theorem sqT_ex {K : PySem.W.Frag} {F F' : Hp} {a : Addr} {xs : List V} (e : Same F F') (h : SqT K F a xs) : SqT K F' a xs := by
  rcases h with h | h
  · exact Or.inl (rd_ex e h)
  · exact Or.inr h

mutual
theorem Den.mono {K : PySem.W.Frag} {F F' : Hp} (e : Same F F') {v : V} {d : D} : Den K F v d → Den K F' v d
  | .non => .non
  | .bl b => .bl b
  | .int i => .int i
  | .str x => .str x
  | .ty n => .ty n
  | .ref a => .ref a
  | .tup h q => .tup (e _ _ h) (DenL.mono e q)
  | .lst h q => .lst (sqL_ex e h) (DenL.mono e q)
  | .dic h k q => .dic (rd_ex e h) k (DenL.mono e q)
  | .dit h k q => .dit (rd_ex e h) k (DenL.mono e q)
  | .obj h k q => .obj (e _ _ h) k (DenL.mono e q)
theorem DenL.mono {K : PySem.W.Frag} {F F' : Hp} (e : Same F F') {xs : List V} {ds : List D} : DenL K F xs ds → DenL K F' xs ds
  | .nil => .nil
  | .cons h q => .cons (Den.mono e h) (DenL.mono e q)
end
section
variable {K : PySem.W.Frag} {F : Hp}
theorem DenL.length {xs : List V} {ds : List D} : DenL K F xs ds → xs.length = ds.length
  | .nil => rfl
  | .cons _ q => by simp [DenL.length q]
theorem DenL.get {xs : List V} {ds : List D} : DenL K F xs ds → ∀ {i : Nat} {d : D}, ds[i]? = some d → ∃ v, xs[i]? = some v ∧ Den K F v d
  | .nil, _, _, e => by simp at e
  | .cons h q, 0, d, e => by simp at e; subst e; exact ⟨_, rfl, h⟩
  | .cons h q, i + 1, d, e => by
    obtain ⟨v, e1, e2⟩ := DenL.get q (i := i) (by simpa using e)
    exact ⟨v, by simpa using e1, e2⟩
theorem DenL.get' {xs : List V} {ds : List D} : DenL K F xs ds → ∀ {i : Nat} {v : V}, xs[i]? = some v → ∃ d, ds[i]? = some d ∧ Den K F v d
  | .nil, _, _, e => by simp at e
  | .cons h q, 0, d, e => by simp at e; subst e; exact ⟨_, rfl, h⟩
  | .cons h q, i + 1, d, e => by
    obtain ⟨v, e1, e2⟩ := DenL.get' q (i := i) (by simpa using e)
    exact ⟨v, by simpa using e1, e2⟩
theorem DenL.append {xs ys : List V} {ds es : List D} : DenL K F xs ds → DenL K F ys es → DenL K F (xs ++ ys) (ds ++ es)
  | .nil, q => q
  | .cons h t, q => .cons h (DenL.append t q)
end

mutual
inductive Own (K : PySem.W.Frag) (F H : Hp) : V → T → List Addr → Prop
  | v {x : V} {d : D} : Den K F x d → Own K F H x (.v d) []
  | at_ {a : Addr} {t : T} {A : List Addr} : Own K F H (.ref a) t A → Own K F H (.ref a) (.at_ a t) A
  | lst {a : Addr} {xs : List V} {ts : List T} {A : List Addr} : H a = some (.lst xs) → OwnL K F H xs ts A → Own K F H (.ref a) (.lst ts) (a :: A)
  | dic {a : Addr} {kvs : List (Key × V)} {ts : List (Key × T)} {A : List Addr} : H a = some (.dK kvs) → kvs.map (·.1) = ts.map (·.1) → OwnL K F H (kvs.map (·.2)) (ts.map (·.2)) A → Own K F H (.ref a) (.dic ts) (a :: A)
  | dit {a : Addr} {kvs : List (List Key × V)} {ts : List (List Key × T)} {A : List Addr} : H a = some (.dT kvs) → kvs.map (·.1) = ts.map (·.1) → OwnL K F H (kvs.map (·.2)) (ts.map (·.2)) A → Own K F H (.ref a) (.dit ts) (a :: A)
  | obj {a C dx : Addr} {fs : List (Str × V)} {ts : List (Str × T)} {A : List Addr} : H a = some (.ins C dx fs) → fs.map (·.1) = ts.map (·.1) → OwnL K F H (fs.map (·.2)) (ts.map (·.2)) A → Own K F H (.ref a) (.obj C ts) (a :: A)
inductive OwnL (K : PySem.W.Frag) (F H : Hp) : List V → List T → List Addr → Prop
  | nil : OwnL K F H [] [] []
  | cons {x : V} {t : T} {xs : List V} {ts : List T} {A B : List Addr} : Own K F H x t A → OwnL K F H xs ts B → OwnL K F H (x :: xs) (t :: ts) (A ++ B)
end
mutual
theorem Own.mono {K : PySem.W.Frag} {F F' H H' : Hp} (e : Same F F') {v : V} {t : T} {A : List Addr} (k : ∀ a ∈ A, ∀ o, H a = some o → H' a = some o) : Own K F H v t A → Own K F' H' v t A
  | .v h => .v (h.mono e)
  | .at_ h => .at_ (Own.mono e k h)
  | .lst h q => .lst (k _ List.mem_cons_self _ h) (OwnL.mono e (fun a ha => k a (List.mem_cons_of_mem _ ha)) q)
  | .dic h z q => .dic (k _ List.mem_cons_self _ h) z (OwnL.mono e (fun a ha => k a (List.mem_cons_of_mem _ ha)) q)
  | .dit h z q => .dit (k _ List.mem_cons_self _ h) z (OwnL.mono e (fun a ha => k a (List.mem_cons_of_mem _ ha)) q)
  | .obj h z q => .obj (k _ List.mem_cons_self _ h) z (OwnL.mono e (fun a ha => k a (List.mem_cons_of_mem _ ha)) q)
theorem OwnL.mono {K : PySem.W.Frag} {F F' H H' : Hp} (e : Same F F') {xs : List V} {ts : List T} {A : List Addr} (k : ∀ a ∈ A, ∀ o, H a = some o → H' a = some o) : OwnL K F H xs ts A → OwnL K F' H' xs ts A
  | .nil => .nil
  | .cons h q => .cons (Own.mono e (fun a ha => k a (List.mem_append_left _ ha)) h) (OwnL.mono e (fun a ha => k a (List.mem_append_right _ ha)) q)
end
mutual
/-- owned objects stand -/
theorem Own.there {K : PySem.W.Frag} {F H : Hp} {v : V} {t : T} {A : List Addr} : Own K F H v t A → ∀ a ∈ A, ∃ o, H a = some o
  | .v h, a, ha => by cases ha
  | .at_ h, a, ha => Own.there h a ha
  | .lst h q, a, ha => by
    rcases List.mem_cons.mp ha with e | ha
    · exact ⟨_, e ▸ h⟩
    · exact OwnL.there q a ha
  | .dic h z q, a, ha => by
    rcases List.mem_cons.mp ha with e | ha
    · exact ⟨_, e ▸ h⟩
    · exact OwnL.there q a ha
  | .dit h z q, a, ha => by
    rcases List.mem_cons.mp ha with e | ha
    · exact ⟨_, e ▸ h⟩
    · exact OwnL.there q a ha
  | .obj h z q, a, ha => by
    rcases List.mem_cons.mp ha with e | ha
    · exact ⟨_, e ▸ h⟩
    · exact OwnL.there q a ha
theorem OwnL.there {K : PySem.W.Frag} {F H : Hp} {xs : List V} {ts : List T} {A : List Addr} : OwnL K F H xs ts A → ∀ a ∈ A, ∃ o, H a = some o
  | .nil, a, ha => by cases ha
  | .cons h q, a, ha => by
    rcases List.mem_append.mp ha with ha | ha
    · exact Own.there h a ha
    · exact OwnL.there q a ha
end
mutual
/-- let go: where all that is owned is known to be as it is -/
theorem Own.den {K : PySem.W.Frag} {F F' H : Hp} (e : Same F F') {v : V} {t : T} {A : List Addr} (k : ∀ a ∈ A, ∀ o, H a = some o → F' a = some o) : Own K F H v t A → Den K F' v t.d
  | .v h => by rw [T.d_v]; exact h.mono e
  | .at_ h => by rw [T.d_at]; exact Own.den e k h
  | .lst h q => by rw [T.d_lst]; exact .lst (SqL.of (k _ List.mem_cons_self _ h)) (OwnL.den e (fun a ha => k a (List.mem_cons_of_mem _ ha)) q)
  | .dic (ts := ts) h z q => by
    rw [T.d_dic]
    refine .dic (.inl (k _ List.mem_cons_self _ h)) ?_ ?_
    · rw [z]; simp [Function.comp_def]
    · have := OwnL.den e (fun a ha => k a (List.mem_cons_of_mem _ ha)) q
      simpa [Function.comp_def] using this
  | .dit (ts := ts) h z q => by
    rw [T.d_dit]
    refine .dit (.inl (k _ List.mem_cons_self _ h)) ?_ ?_
    · rw [z]; simp [Function.comp_def]
    · have := OwnL.den e (fun a ha => k a (List.mem_cons_of_mem _ ha)) q
      simpa [Function.comp_def] using this
  | .obj (ts := ts) h z q => by
    rw [T.d_obj]
    refine .obj (k _ List.mem_cons_self _ h) ?_ ?_
    · rw [z]; simp [Function.comp_def]
    · have := OwnL.den e (fun a ha => k a (List.mem_cons_of_mem _ ha)) q
      simpa [Function.comp_def] using this
theorem OwnL.den {K : PySem.W.Frag} {F F' H : Hp} (e : Same F F') {xs : List V} {ts : List T} {A : List Addr} (k : ∀ a ∈ A, ∀ o, H a = some o → F' a = some o) : OwnL K F H xs ts A → DenL K F' xs (ts.map T.d)
  | .nil => .nil
  | .cons h q => .cons (Own.den e (fun a ha => k a (List.mem_append_left _ ha)) h) (OwnL.den e (fun a ha => k a (List.mem_append_right _ ha)) q)
end

/-- slots: what each holds -/
inductive OwnS (K : PySem.W.Frag) (F H : Hp) : List (Option V) → List (Option T) → List Addr → Prop
  | nil : OwnS K F H [] [] []
  | skip {x : Option V} {vs : List (Option V)} {ts : List (Option T)} {A : List Addr} : OwnS K F H vs ts A → OwnS K F H (x :: vs) (none :: ts) A
  | cons {v : V} {t : T} {vs : List (Option V)} {ts : List (Option T)} {A B : List Addr} : Own K F H v t A → OwnS K F H vs ts B → OwnS K F H (some v :: vs) (some t :: ts) (A ++ B)
section
variable {K : PySem.W.Frag} {F F' H H' : Hp} {vs vs' : List (Option V)} {ts ts' : List (Option T)} {A B : List Addr}
theorem OwnS.mono (e : Same F F') (h : OwnS K F H vs ts A) : (∀ a ∈ A, ∀ o, H a = some o → H' a = some o) → OwnS K F' H' vs ts A := by
  induction h with
  | nil => intro _; exact .nil
  | skip _ ih => intro k; exact .skip (ih k)
  | cons h _ ih => intro k; exact .cons (h.mono e fun a ha => k a (List.mem_append_left _ ha)) (ih fun a ha => k a (List.mem_append_right _ ha))
theorem OwnS.there (h : OwnS K F H vs ts A) : ∀ a ∈ A, ∃ o, H a = some o := by
  induction h with
  | nil => intro a ha; cases ha
  | skip _ ih => exact ih
  | cons h _ ih =>
    intro a ha
    rcases List.mem_append.mp ha with ha | ha
    · exact h.there a ha
    · exact ih a ha
theorem OwnS.len (h : OwnS K F H vs ts A) : vs.length = ts.length := by
  induction h with
  | nil => rfl
  | skip _ ih => simp [ih]
  | cons _ _ ih => simp [ih]
theorem OwnS.append (h : OwnS K F H vs ts A) (h' : OwnS K F H vs' ts' B) : OwnS K F H (vs ++ vs') (ts ++ ts') (A ++ B) := by
  induction h with
  | nil => exact h'
  | skip _ ih => exact .skip ih
  | cons h _ ih => rw [List.append_assoc]; exact .cons h ih
theorem OwnS.split : ∀ {vs : List (Option V)} {ts : List (Option T)} {A : List Addr}, vs.length = ts.length → OwnS K F H (vs ++ vs') (ts ++ ts') A → ∃ A1 A2, A = A1 ++ A2 ∧ OwnS K F H vs ts A1 ∧ OwnS K F H vs' ts' A2
  | [], [], A, _, h => ⟨[], A, rfl, .nil, h⟩
  | [], t :: ts, _, e, _ => by simp at e
  | v :: vs, [], _, e, _ => by simp at e
  | v :: vs, t :: ts, A, e, h => by
    have e' : vs.length = ts.length := by simpa using e
    cases h with
    | skip q =>
      obtain ⟨A1, A2, rfl, h1, h2⟩ := OwnS.split e' q
      exact ⟨A1, A2, rfl, .skip h1, h2⟩
    | cons h q =>
      obtain ⟨A1, A2, rfl, h1, h2⟩ := OwnS.split e' q
      exact ⟨_ ++ A1, A2, (List.append_assoc _ _ _).symm, .cons h h1, h2⟩
theorem OwnS.ofL {xs : List V} {us : List T} {A : List Addr} : OwnL K F H xs us A → OwnS K F H (xs.map some) (us.map some) A
  | .nil => .nil
  | .cons h q => .cons h (OwnS.ofL q)
theorem OwnS.toL : ∀ {xs : List V} {us : List T} {A : List Addr}, OwnS K F H (xs.map some) (us.map some) A → OwnL K F H xs us A
  | [], [], _, h => by cases h; exact .nil
  | [], _ :: _, _, h => by cases h
  | _ :: _, [], _, h => by cases h
  | x :: xs, u :: us, _, h => by
    cases h with
    | cons h q => exact .cons h (OwnS.toL q)
end

/-- a dict that is being walked, or was: it stands, and is never changed again -/
def Lkd (H : Hp) (a : Addr) (u : HO) : Prop := ∃ (o : Obj) (kvs : List (Key × V)), u = .dK kvs ∧ H a = some (.frz o u)
/-- what is known stands -/
def Sub (F H : Hp) : Prop := ∀ a u, F a = some u → H a = some u ∨ Lkd H a u
/-- what has to stay stays -/
def Bas (B F H : Hp) : Prop := ∀ a u, B a = some u → H a = some u ∨ (F a = some u ∧ Lkd H a u)
theorem Sub.refl (F : Hp) : Sub F F := fun _ _ h => .inl h
theorem Same.sub {F H : Hp} (h : Same F H) : Sub F H := fun a u e => .inl (h a u e)
theorem Sub.tr {F F' H : Hp} (e : Same F F') (h : Sub F' H) : Sub F H := fun a u z => h a u (e a u z)
theorem Lkd.ex {H H' : Hp} {a : Addr} {u : HO} (e : Same H H') (h : Lkd H a u) : Lkd H' a u := by
  obtain ⟨o, kvs, rfl, h⟩ := h
  exact ⟨o, kvs, rfl, e _ _ h⟩
theorem Sub.ex {F H H' : Hp} (h : Sub F H) (e : Same H H') : Sub F H' := fun a u z => (h a u z).imp (e a u) (Lkd.ex e)
theorem Bas.ex {B F H H' : Hp} (h : Bas B F H) (e : Same H H') : Bas B F H' := fun a u z => (h a u z).imp (e a u) (fun q => ⟨q.1, q.2.ex e⟩)
theorem Bas.mono {B F F' H : Hp} (h : Bas B F H) (e : Same F F') : Bas B F' H := fun a u z => (h a u z).imp id (fun q => ⟨e a u q.1, q.2⟩)
theorem Sub.free {F H : Hp} (h : Sub F H) {a : Addr} (e : H a = none) : F a = none := by
  cases q : F a with
  | none => rfl
  | some u =>
    rcases h a u q with z | ⟨o, kvs, _, z⟩ <;> (rw [e] at z; cases z)
theorem Bas.free {B F H : Hp} (h : Bas B F H) {a : Addr} (e : H a = none) : B a = none := by
  cases q : B a with
  | none => rfl
  | some u =>
    rcases h a u q with z | ⟨_, o, kvs, _, z⟩ <;> (rw [e] at z; cases z)
theorem Sub.rd {F H : Hp} (h : Sub F H) {a : Addr} {u : HO} (r : Rd F a u) : Rd H a u := by
  rcases r with r | ⟨o, r⟩
  · rcases h a u r with z | ⟨o, kvs, e, z⟩
    · exact .inl z
    · exact .inr ⟨o, z⟩
  · rcases h a _ r with z | ⟨o', kvs, e, z⟩
    · exact .inr ⟨o, z⟩
    · cases e
theorem Sub.l {F H : Hp} (h : Sub F H) {a : Addr} {xs : List V} (r : F a = some (.lst xs)) : H a = some (.lst xs) := by
  rcases h a _ r with z | ⟨o', kvs, e, z⟩
  · exact z
  · cases e
theorem Sub.t {F H : Hp} (h : Sub F H) {a : Addr} {xs : List V} (r : F a = some (.tup xs)) : H a = some (.tup xs) := by
  rcases h a _ r with z | ⟨o', kvs, e, z⟩
  · exact z
  · cases e
theorem Sub.i {F H : Hp} (h : Sub F H) {a C dx : Addr} {fs : List (Str × V)} (r : F a = some (.ins C dx fs)) : H a = some (.ins C dx fs) := by
  rcases h a _ r with z | ⟨o', kvs, e, z⟩
  · exact z
  · cases e
theorem Sub.sqL {K : PySem.W.Frag} {F H : Hp} (h : Sub F H) {a : Addr} {xs : List V} (r : SqL K F a xs) : SqL K H a xs := by
  rcases r with r | r
  · exact .inl (h.rd r)
  · exact .inr r
mutual
theorem Den.sub {K : PySem.W.Frag} {F F' : Hp} (e : Sub F F') {v : V} {d : D} : Den K F v d → Den K F' v d
  | .non => .non
  | .bl b => .bl b
  | .int i => .int i
  | .str x => .str x
  | .ty n => .ty n
  | .ref a => .ref a
  | .tup h q => .tup (e.t h) (DenL.sub e q)
  | .lst h q => .lst (e.sqL h) (DenL.sub e q)
  | .dic h k q => .dic (e.rd h) k (DenL.sub e q)
  | .dit h k q => .dit (e.rd h) k (DenL.sub e q)
  | .obj h k q => .obj (e.i h) k (DenL.sub e q)
theorem DenL.sub {K : PySem.W.Frag} {F F' : Hp} (e : Sub F F') {xs : List V} {ds : List D} : DenL K F xs ds → DenL K F' xs ds
  | .nil => .nil
  | .cons h q => .cons (Den.sub e h) (DenL.sub e q)
end
/-- THE STATE of a def: slots and what they hold; B: what has to stay as it is; F0: what was known at the begin -/
def RlF (K : PySem.W.Frag) (B F0 F : Hp) (ρ : List (Option T)) (σ : List (Option V)) (H : Hp) : Prop :=
  ∃ (A : List Addr), Same F0 F ∧ Sub F H ∧ Bas B F H ∧ (∀ a o, F a = some o → (∃ u, F0 a = some u) ∨ B a = none) ∧ OwnS K F H σ ρ A ∧ A.Nodup ∧ ∀ a ∈ A, F a = none ∧ B a = none

def Rl (K : PySem.W.Frag) (B F0 : Hp) (ρ : List (Option T)) (σ : List (Option V)) (H : Hp) : Prop := ∃ F : Hp, RlF K B F0 F ρ σ H
theorem none_of_ne {F : Hp} {a : Addr} (h : ∀ o, F a ≠ some o) : F a = none := by
  cases e : F a with
  | none => rfl
  | some o => exact absurd e (h o)
section
variable {K : PySem.W.Frag} {B F0 H H' : Hp} {ρ ρ' st : List (Option T)} {σ σ' vst : List (Option V)} {t : T} {v : V} {d : D} {p : Addr}
theorem Rl.len (h : Rl K B F0 ρ σ H) : σ.length = ρ.length := by
  obtain ⟨_, _, _, _, _, _, o, _, _⟩ := h
  exact o.len
/-- more on the heap -/
theorem Rl.heap (h : Rl K B F0 ρ σ H) (e : Same H H') : Rl K B F0 ρ σ H' := by
  obtain ⟨F, A, e0, e1, e2, dm, o, nd, fr⟩ := h
  exact ⟨F, A, e0, e1.ex e, e2.ex e, dm, o.mono (Same.refl _) (fun a _ u q => e a u q), nd, fr⟩
/-- a slot's rows in another order -/
theorem Rl.swap {ρ1 ρ2 ρ3 : List (Option T)} {σ1 σ2 σ3 : List (Option V)} (l1 : σ1.length = ρ1.length) (l2 : σ2.length = ρ2.length) (h : Rl K B F0 (ρ1 ++ (ρ2 ++ ρ3)) (σ1 ++ (σ2 ++ σ3)) H) : Rl K B F0 (ρ2 ++ (ρ1 ++ ρ3)) (σ2 ++ (σ1 ++ σ3)) H := by
  obtain ⟨F, A, e0, e1, e2, dm, o, nd, fr⟩ := h
  obtain ⟨A1, A', rfl, o1, o'⟩ := o.split l1
  obtain ⟨A2, A3, rfl, o2, o3⟩ := o'.split l2
  have pm : (A2 ++ (A1 ++ A3)).Perm (A1 ++ (A2 ++ A3)) := by
    rw [← List.append_assoc, ← List.append_assoc]
    exact List.Perm.append_right _ List.perm_append_comm
  exact ⟨F, A2 ++ (A1 ++ A3), e0, e1, e2, dm, o2.append (o1.append o3), pm.nodup_iff.mpr nd, fun a ha => fr a (pm.mem_iff.mp ha)⟩
theorem Rl.dropN {ρ1 ρ2 : List (Option T)} {σ1 σ2 : List (Option V)} (l1 : σ1.length = ρ1.length) (h : Rl K B F0 (ρ1 ++ ρ2) (σ1 ++ σ2) H) : Rl K B F0 ρ2 σ2 H := by
  obtain ⟨F, A, e0, e1, e2, dm, o, nd, fr⟩ := h
  obtain ⟨A1, A2, rfl, o1, o2⟩ := o.split l1
  exact ⟨F, A2, e0, e1, e2, dm, o2, (List.nodup_append.mp nd).2.1, fun a ha => fr a (List.mem_append_right _ ha)⟩
theorem Rl.drop {x : Option T} {y : Option V} (h : Rl K B F0 (x :: ρ) (y :: σ) H) : Rl K B F0 ρ σ H := Rl.dropN (ρ1 := [x]) (σ1 := [y]) rfl h
/-- a row forgotten -/
theorem Rl.fog {x : Option T} {y y' : Option V} (h : Rl K B F0 (x :: ρ) (y :: σ) H) : Rl K B F0 (none :: ρ) (y' :: σ) H := by
  obtain ⟨F, A, e0, e1, e2, dm, o, nd, fr⟩ := h.drop
  exact ⟨F, A, e0, e1, e2, dm, .skip o, nd, fr⟩
/-- let go what is at the head -/
theorem Rl.freeze (h : Rl K B F0 (some t :: ρ) (some v :: σ) H) : Rl K B F0 (some (.v t.d) :: ρ) (some v :: σ) H := by
  obtain ⟨F, A, e0, e1, e2, dm, o, nd, fr⟩ := h
  cases o with
  | @cons _ _ _ _ A1 A2 o1 o2 =>
    classical
    let F' : Hp := fun a => if a ∈ A1 then H a else F a
    have m1 : ∀ a ∈ A1, F' a = H a := fun a ha => if_pos ha
    have m2 : ∀ a, a ∉ A1 → F' a = F a := fun a ha => if_neg ha
    obtain ⟨n1, n2, n3⟩ := List.nodup_append.mp nd
    have eF : Same F F' := fun a u e => by
      by_cases ha : a ∈ A1
      · rw [(fr a (List.mem_append_left _ ha)).1] at e; cases e
      · rw [m2 a ha]; exact e
    have eH : Sub F' H := fun a u e => by
      by_cases ha : a ∈ A1
      · rw [m1 a ha] at e; exact .inl e
      · rw [m2 a ha] at e; exact e1 a u e
    have o2' : OwnS K F' H σ ρ A2 := o2.mono eF fun a _ u q => q
    refine ⟨F', A2, e0.trans eF, eH, e2.mono eF, fun a u e => ?_, ?_, n2, fun a ha => ?_⟩
    · by_cases ha : a ∈ A1
      · exact .inr (fr a (List.mem_append_left _ ha)).2
      · rw [m2 a ha] at e; exact dm a u e
    · have := OwnS.cons (A := []) (.v (o1.den eF fun a ha u q => by rw [m1 a ha]; exact q)) o2'
      exact this
    · have hn : a ∉ A1 := fun h1 => n3 a h1 a ha rfl
      rw [m2 a hn]
      exact fr a (List.mem_append_right _ ha)
theorem Rl.freezeN {ts : List T} {vs : List V} (h : Rl K B F0 (ts.map some ++ ρ) (vs.map some ++ σ) H) (hl : vs.length = ts.length) : Rl K B F0 ((ts.map fun t => some (.v t.d)) ++ ρ) (vs.map some ++ σ) H := by
  induction ts generalizing vs ρ σ with
  | nil =>
    cases vs with
    | nil => exact h
    | cons _ _ => simp at hl
  | cons t ts ih =>
    cases vs with
    | nil => simp at hl
    | cons v vs =>
      have hl' : vs.length = ts.length := by simpa using hl
      have h1 : Rl K B F0 (some t :: (ts.map some ++ ρ)) (some v :: (vs.map some ++ σ)) H := h
      have h2 := Rl.swap (ρ1 := [some (.v t.d)]) (σ1 := [some v]) (ρ2 := ts.map some) (σ2 := vs.map some) rfl (by simp [hl']) h1.freeze
      have h3 := ih h2 hl'
      exact Rl.swap (ρ1 := ts.map fun t => some (.v t.d)) (σ1 := vs.map some) (ρ2 := [some (.v t.d)]) (σ2 := [some v]) (by simp [hl']) rfl h3
/-- plain data at the head, whatever is known -/
theorem Rl.pushS (h : Rl K B F0 ρ σ H) (hd : ∀ F, Den K F v d) : Rl K B F0 (some (.v d) :: ρ) (some v :: σ) H := by
  obtain ⟨F, A, e0, e1, e2, dm, o, nd, fr⟩ := h
  exact ⟨F, A, e0, e1, e2, dm, OwnS.cons (A := []) (.v (hd F)) o, nd, fr⟩
theorem OwnS.at {F : Hp} {A : List Addr} {i : Nat} {t : T} (h : OwnS K F H σ ρ A) (e : ρ[i]? = some (some t)) : ∃ v A1 A2 A3, σ[i]? = some (some v) ∧ A = A1 ++ (A2 ++ A3) ∧ Own K F H v t A2 ∧ (∀ (F' H' : Hp) (v' : V) (t' : T) (A' : List Addr), Same F F' → (∀ a ∈ A1 ++ A3, ∀ o, H a = some o → H' a = some o) → Own K F' H' v' t' A' → OwnS K F' H' (σ.set i (some v')) (ρ.set i (some t')) (A1 ++ (A' ++ A3))) ∧
    (∀ y : Option V, OwnS K F H (σ.set i y) (ρ.set i none) (A1 ++ A3)) := by
  induction h generalizing i with
  | nil => simp at e
  | @skip x vs ts A _ ih =>
    cases i with
    | zero => simp at e
    | succ i =>
      obtain ⟨v, A1, A2, A3, e1, e2, o, k, k0⟩ := ih (i := i) (by simpa using e)
      exact ⟨v, A1, A2, A3, by simpa using e1, e2, o, fun F' H' v' t' A' eF hk ho => .skip (k F' H' v' t' A' eF hk ho), fun y => .skip (k0 y)⟩
  | @cons w u vs ts A B' ho hs ih =>
    cases i with
    | zero =>
      simp at e; subst e
      refine ⟨w, [], A, B', rfl, rfl, ho, fun F' H' v' t' A' eF hk ho' => ?_, fun y => .skip hs⟩
      exact OwnS.cons (A := A') (B := B') ho' (hs.mono eF fun a ha => hk a (by simpa using ha))
    | succ i =>
      obtain ⟨v, A1, A2, A3, e1, e2, o, k, k0⟩ := ih (i := i) (by simpa using e)
      refine ⟨v, A ++ A1, A2, A3, by simpa using e1, by rw [e2, List.append_assoc], o, fun F' H' v' t' A' eF hk ho' => ?_, fun y => ?_⟩
      · rw [List.append_assoc]
        exact .cons (ho.mono eF fun a ha => hk a (by simp [ha])) (k F' H' v' t' A' eF (fun a ha => hk a (by rcases List.mem_append.mp ha with z | z <;> simp [z])) ho')
      · rw [List.append_assoc]
        exact .cons ho (k0 y)
/-- a slot that holds plain data, read -/
theorem Rl.get {i : Nat} (h : Rl K B F0 (st ++ ρ) (vst ++ σ) H) (hl : vst.length = st.length) (e : ρ[i]? = some (some (.v d))) : ∃ v, σ[i]? = some (some v) ∧ Rl K B F0 (some (.v d) :: (st ++ ρ)) (some v :: (vst ++ σ)) H := by
  obtain ⟨F, A, e0, e1, e2, dm, o, nd, fr⟩ := h
  obtain ⟨A1, A2, rfl, o1, o2⟩ := id (o.split hl)
  obtain ⟨v, _, _, _, e3, _, o3, _⟩ := o2.at e
  cases o3 with
  | v hd => exact ⟨v, e3, F, _, e0, e1, e2, dm, OwnS.cons (A := []) (.v hd) o, nd, fr⟩
/-- a slot is given what is at the head -/
theorem Rl.setS {i : Nat} (h : Rl K B F0 (some t :: ρ) (some v :: σ) H) : Rl K B F0 (ρ.set i (some t)) (σ.set i (some v)) H := by
  obtain ⟨F, A, e0, e1, e2, dm, o, nd, fr⟩ := h
  cases o with
  | @cons _ _ _ _ A1 A2 o1 o2 =>
    by_cases hi : i < ρ.length
    · cases hx : ρ[i]? with
      | none => exact absurd hi (Nat.not_lt.mpr (List.getElem?_eq_none_iff.mp hx))
      | some x =>
        cases x with
        | none =>
          -- the slot held nothing that is known
          have key : ∀ {vs : List (Option V)} {ts : List (Option T)} {i : Nat} {A2 : List Addr}, OwnS K F H vs ts A2 → ts[i]? = some none → ∃ A3 A4, A2 = A3 ++ A4 ∧ OwnS K F H (vs.set i (some v)) (ts.set i (some t)) (A3 ++ (A1 ++ A4)) := by
            intro vs ts i A2 h
            induction h generalizing i with
            | nil => intro e; simp at e
            | @skip x vs ts A hs ih =>
              intro e
              cases i with
              | zero => exact ⟨[], A, rfl, OwnS.cons (A := A1) (B := A) o1 hs⟩
              | succ i =>
                obtain ⟨A3, A4, e2, o⟩ := ih (i := i) (by simpa using e)
                exact ⟨A3, A4, e2, .skip o⟩
            | @cons w u vs ts A B' ho hs ih =>
              intro e
              cases i with
              | zero => simp at e
              | succ i =>
                obtain ⟨A3, A4, e2, o⟩ := ih (i := i) (by simpa using e)
                refine ⟨A ++ A3, A4, by rw [e2, List.append_assoc], ?_⟩
                rw [List.append_assoc]
                exact .cons ho o
          obtain ⟨A3, A4, rfl, o3⟩ := key o2 hx
          have pm : (A3 ++ (A1 ++ A4)).Perm (A1 ++ (A3 ++ A4)) := by
            rw [← List.append_assoc, ← List.append_assoc]
            exact List.Perm.append_right _ List.perm_append_comm
          exact ⟨F, _, e0, e1, e2, dm, o3, pm.nodup_iff.mpr nd, fun a ha => fr a (pm.mem_iff.mp ha)⟩
        | some u =>
          obtain ⟨w, A3, A4, A5, _, rfl, _, k, _⟩ := o2.at hx
          have o3 := k F H v t A1 (Same.refl _) (fun a _ o q => q) o1
          have sub : List.Sublist (A1 ++ (A3 ++ A5)) (A1 ++ (A3 ++ (A4 ++ A5))) := by
            refine List.Sublist.append (List.Sublist.refl _) (List.Sublist.append (List.Sublist.refl _) (List.sublist_append_right _ _))
          have pm : (A3 ++ (A1 ++ A5)).Perm (A1 ++ (A3 ++ A5)) := by
            rw [← List.append_assoc, ← List.append_assoc]
            exact List.Perm.append_right _ List.perm_append_comm
          exact ⟨F, _, e0, e1, e2, dm, o3, pm.nodup_iff.mpr (nd.sublist sub), fun a ha => fr a (sub.subset (pm.mem_iff.mp ha))⟩
    · have l1 : ρ.set i (some t) = ρ := List.set_eq_of_length_le (Nat.not_lt.mp hi)
      have l2 : σ.set i (some v) = σ := List.set_eq_of_length_le (by rw [o2.len]; exact Nat.not_lt.mp hi)
      rw [l1, l2]
      exact ⟨F, A2, e0, e1, e2, dm, o2, (List.nodup_append.mp nd).2.1, fun a ha => fr a (List.mem_append_right _ ha)⟩
/-- a new tuple of plain data -/
theorem Rl.newTup {ds : List D} {vs : List V} (h : Rl K B F0 ((ds.map fun d => some (.v d)) ++ ρ) (vs.map some ++ σ) H) (hl : vs.length = ds.length) (hp : H p = none) : Rl K B F0 (some (.v (.tup ds)) :: ρ) (some (.ref p) :: σ) (upd H p (.tup vs)) := by
  obtain ⟨F, A, e0, e1, e2, dm, o, nd, fr⟩ := h
  obtain ⟨A1, A2, rfl, o1, o2⟩ := o.split (by simpa using hl)
  have hF : F p = none := e1.free hp
  have hB : B p = none := e2.free hp
  have key : ∀ {ds : List D} {vs : List V} {A1 : List Addr}, OwnS K F H (vs.map some) (ds.map fun d => some (T.v d)) A1 → A1 = [] ∧ DenL K F vs ds := by
    intro ds
    induction ds with
    | nil =>
      intro vs A1 h
      cases vs with
      | nil => cases h; exact ⟨rfl, .nil⟩
      | cons _ _ => cases h
    | cons d ds ih =>
      intro vs A1 h
      cases vs with
      | nil => cases h
      | cons v vs =>
        cases h with
        | cons h1 h2 =>
          obtain ⟨rfl, q⟩ := ih h2
          cases h1 with
          | v hd => exact ⟨rfl, .cons hd q⟩
  obtain ⟨rfl, q⟩ := key o1
  have eF : Same F (upd F p (.tup vs)) := fun a u e => by rw [upd_ne (ne_of_none e hF)]; exact e
  have kp : Same H (upd H p (.tup vs)) := fun a u e => by rw [upd_ne (ne_of_none e hp)]; exact e
  refine ⟨upd F p (.tup vs), A2, e0.trans eF, fun a u e => ?_, fun a u e => ?_, fun a u e => ?_, ?_, (List.nodup_append.mp nd).2.1, fun a ha => ?_⟩
  · by_cases hap : a = p
    · subst hap; rw [upd_same] at e; exact .inl (by rw [upd_same]; exact e)
    · rw [upd_ne hap] at e; exact (e1.ex kp) a u e
  · exact ((e2.ex kp).mono eF) a u e
  · by_cases hap : a = p
    · subst hap; exact .inr hB
    · rw [upd_ne hap] at e; exact dm a u e
  · refine OwnS.cons (A := []) (.v (.tup upd_same (q.mono eF))) (o2.mono eF fun a ha u e => ?_)
    obtain ⟨w, hw⟩ := o2.there a ha
    rw [upd_ne (ne_of_none hw hp)]; exact e
  · obtain ⟨w, hw⟩ := o2.there a ha
    obtain ⟨z1, z2⟩ := fr a (List.mem_append_right _ ha)
    rw [upd_ne (ne_of_none hw hp)]
    exact ⟨z1, z2⟩
/-- a new owned object -/
theorem Rl.newOwn {ts : List T} {vs : List V} {o : HO} {t : T} (h : Rl K B F0 (ts.map some ++ ρ) (vs.map some ++ σ) H) (hl : vs.length = ts.length) (hp : H p = none)
    (mk : ∀ (F H' : Hp) (A : List Addr), H' p = some o → OwnL K F H' vs ts A → Own K F H' (.ref p) t (p :: A)) : Rl K B F0 (some t :: ρ) (some (.ref p) :: σ) (upd H p o) := by
  obtain ⟨F, A, e0, e1, e2, dm, os, nd, fr⟩ := h
  obtain ⟨A1, A2, rfl, o1, o2⟩ := os.split (by simpa using hl)
  have hF : F p = none := e1.free hp
  have hB : B p = none := e2.free hp
  have kp : ∀ a u, H a = some u → upd H p o a = some u := fun a u e => by rw [upd_ne (ne_of_none e hp)]; exact e
  have np : p ∉ A1 ++ A2 := fun hm => by
    obtain ⟨w, hw⟩ := (o1.append o2).there p hm
    rw [hp] at hw; cases hw
  refine ⟨F, p :: A1 ++ A2, e0, e1.ex kp, e2.ex kp, dm, ?_, ?_, fun a ha => ?_⟩
  · exact .cons (mk F _ A1 upd_same ((OwnS.toL o1).mono (Same.refl _) fun a _ u q => kp a u q)) (o2.mono (Same.refl _) fun a _ u q => kp a u q)
  · exact List.nodup_cons.mpr ⟨np, nd⟩
  · rcases List.mem_cons.mp ha with e | ha
    · rw [e]; exact ⟨hF, hB⟩
    · exact fr a ha
theorem Rl.newLst {ts : List T} {vs : List V} (h : Rl K B F0 (ts.map some ++ ρ) (vs.map some ++ σ) H) (hl : vs.length = ts.length) (hp : H p = none) : Rl K B F0 (some (.lst ts) :: ρ) (some (.ref p) :: σ) (upd H p (.lst vs)) :=
  h.newOwn hl hp fun F H' A e o => .lst e o
end
end Vl
end
section
set_option maxRecDepth 100000
namespace Vl
open PySem L2

/-! ### what is universally read -/
def tE (X : Cx) (e : Expr) : TE := fun σ H Q => ∃ t, PE X e t ∧ t σ H Q
def tTt (X : Cx) (e : Expr) : TT := fun σ H Q => ∃ t, PT X e t ∧ t σ H Q
def tA (X : Cx) (es : List Expr) : TA := fun σ H Q => ∃ t, PA X es t ∧ t σ H Q
theorem pe_u (X : Cx) (e : Expr) : PE X e (tE X e) := ⟨fun pins s σ H Q I h => let ⟨_, p, q⟩ := h; p.run pins s σ H Q I q⟩
theorem pt_u (X : Cx) (e : Expr) : PT X e (tTt X e) := ⟨fun pins s σ H Q I h => let ⟨_, p, q⟩ := h; p.run pins s σ H Q I q⟩
theorem pa_u (X : Cx) (es : List Expr) : PA X es (tA X es) := ⟨fun pos pins s σ H Q I h => let ⟨_, p, q⟩ := h; p.run pos pins s σ H Q I q⟩

abbrev Rho := List (Option T)
/-- e gives r; behind it the slots are as ρ' says -/
def Ev (X : Cx) (e : Expr) (ρ : Rho) (r : T) (ρ' : Rho) : Prop :=
  ∀ (B F0 : Hp) (st : Rho) (vst : St) (σ : St) (H : Hp) (Q : VK), vst.length = st.length → Rl X.K B F0 (st ++ ρ) (vst ++ σ) H →
    (∀ v H', Rl X.K B F0 (some r :: (st ++ ρ')) (some v :: (vst ++ σ)) H' → Q v H') → tE X e σ H Q
/-- a test -/
def Tv (X : Cx) (e : Expr) (ρ : Rho) (b : Bool) (ρ' : Rho) : Prop :=
  ∀ (B F0 : Hp) (st : Rho) (vst : St) (σ : St) (H : Hp) (Q : Bool → Hp → Prop), vst.length = st.length → Rl X.K B F0 (st ++ ρ) (vst ++ σ) H →
    (∀ H', Rl X.K B F0 (st ++ ρ') (vst ++ σ) H' → Q b H') → tTt X e σ H Q
/-- arguments -/
def EvA (X : Cx) (es : List Expr) (ρ : Rho) (rs : List T) (ρ' : Rho) : Prop :=
  ∀ (B F0 : Hp) (st : Rho) (vst : St) (σ : St) (H : Hp) (Q : List V → Hp → Prop), vst.length = st.length → Rl X.K B F0 (st ++ ρ) (vst ++ σ) H →
    (∀ vs H', vs.length = rs.length → Rl X.K B F0 (rs.map some ++ (st ++ ρ')) (vs.map some ++ (vst ++ σ)) H' → Q vs H') → tA X es σ H Q

section
variable {K : PySem.W.Frag} {B F0 H H' : Hp} {ρ st : Rho} {σ vst : St} {v u : V} {d : D} {t : T} {p : Addr}
theorem Rl.den (h : Rl K B F0 (some (.v d) :: ρ) (some v :: σ) H) : Den K H v d := by
  obtain ⟨F, A, e0, e1, e2, dm, o, nd, fr⟩ := h
  cases o with
  | cons o1 o2 =>
    cases o1 with
    | v hd => exact hd.sub e1
theorem Rl.denN {ds : List D} {vs : List V} (h : Rl K B F0 ((ds.map fun d => some (.v d)) ++ ρ) (vs.map some ++ σ) H) (hl : vs.length = ds.length) : DenL K H vs ds := by
  induction ds generalizing vs ρ σ with
  | nil =>
    cases vs with
    | nil => exact .nil
    | cons _ _ => simp at hl
  | cons d ds ih =>
    cases vs with
    | nil => simp at hl
    | cons v vs =>
      have h1 : Rl K B F0 (some (.v d) :: ((ds.map fun d => some (.v d)) ++ ρ)) (some v :: (vs.map some ++ σ)) H := h
      exact .cons h1.den (ih h1.drop (by simpa using hl))
end

section
variable {X : Cx} {e a b c : Expr} {es : List Expr} {ρ ρ1 ρ2 ρ3 : Rho} {d x y z : D} {r : T} {pos p : Pos} {i : Nat}

theorem Ev.imp {ρ' : Rho} (h : Ev X e ρ r ρ1) (k : ρ1 = ρ') : Ev X e ρ r ρ' := by subst k; exact h
theorem Ev.val {r' : T} (h : Ev X e ρ r ρ1) (k : r = r') : Ev X e ρ r' ρ1 := by subst k; exact h
theorem ev_of {t : TE} (ht : PE X e t) (h : ∀ (B F0 : Hp) (st : Rho) (vst : St) (σ : St) (H : Hp) (Q : VK), vst.length = st.length → Rl X.K B F0 (st ++ ρ) (vst ++ σ) H →
    (∀ v H', Rl X.K B F0 (some r :: (st ++ ρ1)) (some v :: (vst ++ σ)) H' → Q v H') → t σ H Q) : Ev X e ρ r ρ1 := fun B F0 st vst σ H Q hl R k => ⟨t, ht, h B F0 st vst σ H Q hl R k⟩
/-- let go -/
theorem ev_frz (h : Ev X e ρ r ρ1) : Ev X e ρ (.v r.d) ρ1 := fun B F0 st vst σ H Q hl R k => h B F0 st vst σ H Q hl R fun v H' R' => k v H' R'.freeze

/-! ### constants and names -/
theorem ev_int {n : Int} {j} : Ev X (.Constant (.int n) j pos) ρ (.v (.int n)) ρ := ev_of pe_int fun B F0 st vst σ H Q hl R k => k _ H (R.pushS fun _ => .int n)
theorem ev_bl {n : Bool} {j} : Ev X (.Constant (.bool n) j pos) ρ (.v (.bl n)) ρ := ev_of pe_bl fun B F0 st vst σ H Q hl R k => k _ H (R.pushS fun _ => .bl n)
theorem ev_non {j} : Ev X (.Constant .none j pos) ρ (.v .non) ρ := ev_of pe_non fun B F0 st vst σ H Q hl R k => k _ H (R.pushS fun _ => .non)
theorem ev_str {n : Str} {j} : Ev X (.Constant (.str n) j pos) ρ (.v (.str n)) ρ := ev_of pe_str fun B F0 st vst σ H Q hl R k => k _ H (R.pushS fun _ => .str n)
theorem ev_var {x : Str} (i : Nat) (hr : ρ[i]? = some (some (.v d)) := by rfl) (hN : X.N[i]? = some x := by rfl) (hv : Vis X.env.scope x := by first | exact Or.inl rfl | exact Or.inr (Or.inl rfl) | exact Or.inr (Or.inr rfl)) (hd : (x == ("__debug__" : Str)) = false := by decide)
    (hcd : (x == ("__classdict__" : Str)) = false := by decide) : Ev X (.Name x pos) ρ (.v d) ρ := ev_of (pe_var hN hv hd hcd) fun B F0 st vst σ H Q hl R k => by
  obtain ⟨v, e1, R1⟩ := R.get hl hr
  exact ⟨v, e1, k v H R1⟩
/-- a module's constant (an int, a text), a class or function as a value -/
theorem ev_glob {x : Str} {v : V} {u : Value} (hg : Gl X x) (hm : X.mg x = some u) (rv : RelV v u) (hd : ∀ F, Den X.K F v d) (hdb : (x == ("__debug__" : Str)) = false := by decide) : Ev X (.Name x pos) ρ (.v d) ρ :=
  ev_of (pe_glob hg hm rv hdb) fun B F0 st vst σ H Q hl R k => k _ H (R.pushS hd)
end

theorem set_self {α : Type} : ∀ {l : List α} {i : Nat} {x : α}, l[i]? = some x → l.set i x = l
  | [], _, _, h => by simp at h
  | a :: l, 0, x, h => by simp at h; simp [h]
  | a :: l, i + 1, x, h => by simp only [List.set_cons_succ]; rw [set_self (i := i) (by simpa using h)]
section
variable {X : Cx} {K : PySem.W.Frag} {B F0 H H' : Hp} {ρ ρ1 st : Rho} {σ vst : St} {v u : V} {d : D} {t : T} {p : Addr} {i : Nat}
/-- a slot with owned data, let go and read -/
theorem Rl.getFrz (h : Rl K B F0 (st ++ ρ) (vst ++ σ) H) (hl : vst.length = st.length) (e : ρ[i]? = some (some t)) : ∃ v, σ[i]? = some (some v) ∧ Rl K B F0 (some (.v t.d) :: (st ++ ρ.set i (some (.v t.d)))) (some v :: (vst ++ σ)) H := by
  obtain ⟨F, A, e0, e1, e2, dm, o, nd, fr⟩ := h
  obtain ⟨A1, A2, rfl, o1, o2⟩ := o.split hl
  obtain ⟨v, B1, B2, B3, e3, rfl, o3, k, _⟩ := o2.at e
  classical
  let F' : Hp := fun a => if a ∈ B2 then H a else F a
  have m1 : ∀ a ∈ B2, F' a = H a := fun a ha => if_pos ha
  have m2 : ∀ a, a ∉ B2 → F' a = F a := fun a ha => if_neg ha
  obtain ⟨n1, n2, n3⟩ := List.nodup_append.mp nd
  obtain ⟨n4, n5, n6⟩ := List.nodup_append.mp n2
  obtain ⟨n7, n8, n9⟩ := List.nodup_append.mp n5
  have eF : Same F F' := fun a u z => by
    by_cases ha : a ∈ B2
    · rw [(fr a (by simp [ha])).1] at z; cases z
    · rw [m2 a ha]; exact z
  have eH : Sub F' H := fun a u z => by
    by_cases ha : a ∈ B2
    · rw [m1 a ha] at z; exact .inl z
    · rw [m2 a ha] at z; exact e1 a u z
  have hd : Den K F' v t.d := o3.den eF fun a ha u q => by rw [m1 a ha]; exact q
  have es : σ.set i (some v) = σ := set_self e3
  have o4 := k F' H v (.v t.d) [] eF (fun a _ u q => q) (.v hd)
  rw [es] at o4
  have o5 := (o1.mono eF fun a _ u q => q).append o4
  have sub : List.Sublist (A1 ++ (B1 ++ ([] ++ B3))) (A1 ++ (B1 ++ (B2 ++ B3))) :=
    List.Sublist.append (List.Sublist.refl _) (List.Sublist.append (List.Sublist.refl _) (List.Sublist.append (List.nil_sublist _) (List.Sublist.refl _)))
  refine ⟨v, e3, F', _, e0.trans eF, eH, e2.mono eF, fun a u z => ?_, OwnS.cons (A := []) (.v hd) o5, nd.sublist sub, fun a ha => ?_⟩
  · by_cases hb : a ∈ B2
    · exact .inr (fr a (by simp [hb])).2
    · rw [m2 a hb] at z; exact dm a u z
  · have ha' := sub.subset (by simpa using ha)
    have hn : a ∉ B2 := fun hb => by
      rcases List.mem_append.mp (show a ∈ A1 ++ (B1 ++ ([] ++ B3)) by simpa using ha) with q | q
      · exact n3 a q a (by simp [hb]) rfl
      · rcases List.mem_append.mp q with q | q
        · exact n6 a q a (by simp [hb]) rfl
        · exact n9 a hb a (by simpa using q) rfl
    rw [m2 a hn]
    exact fr a ha'
/-- a slot with owned data, its parts seen -/
theorem Rl.slot (h : Rl K B F0 (st ++ ρ) (vst ++ σ) H) (hl : vst.length = st.length) (e : ρ[i]? = some (some t)) : ∃ v F A, σ[i]? = some (some v) ∧ Own K F H v t A ∧ Sub F H ∧ ∀ w d, Den K F w d → Rl K B F0 (some (.v d) :: (st ++ ρ)) (some w :: (vst ++ σ)) H := by
  obtain ⟨F, A, e0, e1, e2, dm, o, nd, fr⟩ := h
  obtain ⟨A1, A2, rfl, o1, o2⟩ := id (o.split hl)
  obtain ⟨v, B1, B2, B3, e3, rfl, o3, k, _⟩ := o2.at e
  exact ⟨v, F, B2, e3, o3, e1, fun w d hw => ⟨F, _, e0, e1, e2, dm, OwnS.cons (A := []) (.v hw) o, nd, fr⟩⟩
/-- what is at the head, its parts seen -/
theorem Rl.elim (h : Rl K B F0 (some (.v d) :: ρ) (some v :: σ) H) : ∃ F, Sub F H ∧ Den K F v d ∧ ∀ w d', Den K F w d' → Rl K B F0 (some (.v d') :: ρ) (some w :: σ) H := by
  obtain ⟨F, A, e0, e1, e2, dm, o, nd, fr⟩ := h
  cases o with
  | cons o1 o2 =>
    cases o1 with
    | v hd => exact ⟨F, e1, hd, fun w d' hw => ⟨F, _, e0, e1, e2, dm, OwnS.cons (A := []) (.v hw) o2, nd, fr⟩⟩
theorem OwnS.allv {F : Hp} : ∀ {ds : List D} {vs : List V} {A : List Addr}, OwnS K F H (vs.map some) (ds.map fun d => some (T.v d)) A → A = [] ∧ DenL K F vs ds
  | [], [], _, h => by cases h; exact ⟨rfl, .nil⟩
  | [], _ :: _, _, h => by cases h
  | _ :: _, [], _, h => by cases h
  | d :: ds, v :: vs, _, h => by
    cases h with
    | cons h1 h2 =>
      obtain ⟨rfl, q⟩ := OwnS.allv h2
      cases h1 with
      | v hd => exact ⟨rfl, .cons hd q⟩
theorem OwnL.ofDen {F : Hp} : ∀ {ds : List D} {vs : List V}, DenL K F vs ds → OwnL K F H vs (ds.map T.v) []
  | _, _, .nil => .nil
  | _, _, .cons h q => OwnL.cons (A := []) (.v h) (OwnL.ofDen q)
/-- several at the head; new things laid of what is known -/
theorem Rl.elimN {ds : List D} {vs : List V} (h : Rl K B F0 ((ds.map fun d => some (.v d)) ++ ρ) (vs.map some ++ σ) H) (hl : vs.length = ds.length) : ∃ F, Sub F H ∧ DenL K F vs ds ∧ (∀ w d', Den K F w d' → Rl K B F0 (some (.v d') :: ρ) (some w :: σ) H) ∧
    (∀ (us : List V) (es : List D) (p : Addr), DenL K F us es → H p = none → Rl K B F0 (some (.lst (es.map T.v)) :: ρ) (some (.ref p) :: σ) (upd H p (.lst us))) ∧
    (∀ (us : List V) (es : List D) (p : Addr), DenL K F us es → H p = none → Rl K B F0 (some (.v (.tup es)) :: ρ) (some (.ref p) :: σ) (upd H p (.tup us))) := by
  obtain ⟨F, A, e0, e1, e2, dm, o, nd, fr⟩ := h
  obtain ⟨A1, A2, rfl, o1, o2⟩ := o.split (by simpa using hl)
  obtain ⟨rfl, q⟩ := OwnS.allv o1
  have nd2 := (List.nodup_append.mp nd).2.1
  have fr2 : ∀ a ∈ A2, F a = none ∧ B a = none := fun a ha => fr a (by simpa using ha)
  refine ⟨F, e1, q, fun w d' hw => ⟨F, _, e0, e1, e2, dm, OwnS.cons (A := []) (.v hw) o2, nd2, fr2⟩, fun us es p hu hp => ?_, fun us es p hu hp => ?_⟩
  · have R : Rl K B F0 ((es.map T.v).map some ++ ρ) (us.map some ++ σ) H := ⟨F, A2, e0, e1, e2, dm, by
      have := (OwnS.ofL (OwnL.ofDen (H := H) hu)).append o2
      simpa using this, nd2, fr2⟩
    exact R.newLst (by simp [hu.length]) hp
  · have R : Rl K B F0 ((es.map fun d => some (.v d)) ++ ρ) (us.map some ++ σ) H := ⟨F, A2, e0, e1, e2, dm, by
      have := (OwnS.ofL (OwnL.ofDen (H := H) hu)).append o2
      simpa [List.map_map, Function.comp_def] using this, nd2, fr2⟩
    exact R.newTup hu.length hp
theorem Rl.headI {n : Int} (h : Rl K B F0 (some (.v (.int n)) :: ρ) (some v :: σ) H) : v = .int n := by cases h.den; rfl
theorem Rl.headB {n : Bool} (h : Rl K B F0 (some (.v (.bl n)) :: ρ) (some v :: σ) H) : v = .bl n := by cases h.den; rfl
theorem Rl.headS {n : Str} (h : Rl K B F0 (some (.v (.str n)) :: ρ) (some v :: σ) H) : v = .str n := by cases h.den; rfl
theorem Rl.headN (h : Rl K B F0 (some (.v .non) :: ρ) (some v :: σ) H) : v = .non := by cases h.den; rfl
end

section
variable {X : Cx} {e a b c : Expr} {es : List Expr} {ρ ρ1 ρ2 ρ3 : Rho} {d x y z : D} {r : T} {t : T} {pos p p2 : Pos} {i : Nat}
theorem ev_varF {x : Str} (i : Nat) (hr : ρ[i]? = some (some t) := by rfl) (hN : X.N[i]? = some x := by rfl) (hv : Vis X.env.scope x := by first | exact Or.inl rfl | exact Or.inr (Or.inl rfl) | exact Or.inr (Or.inr rfl)) (hd : (x == ("__debug__" : Str)) = false := by decide)
    (hcd : (x == ("__classdict__" : Str)) = false := by decide) : Ev X (.Name x pos) ρ (.v t.d) (ρ.set i (some (.v t.d))) := ev_of (pe_var hN hv hd hcd) fun B F0 st vst σ H Q hl R k => by
  obtain ⟨v, e1, R1⟩ := R.getFrz hl hr
  exact ⟨v, e1, k v H R1⟩

/-! ### operators with plain answers -/
theorem ev_op {op : Operator} {q : R2} (ho : OpR X (binaryOp op) q) (ha : Ev X a ρ (.v x) ρ1) (hb : Ev X b ρ1 (.v y) ρ2)
    (hr : ∀ (H : Hp) (v u : V) (Q : VK), Den X.K H v x → Den X.K H u y → (∀ w, (∀ F, Den X.K F w z) → Q w H) → q v u H Q) : Ev X (.BinOp a op b pos) ρ (.v z) ρ2 :=
  ev_of (pe_op ho (pe_u X a) (pe_u X b)) fun B F0 st vst σ H Q hl R k => ha B F0 st vst σ H _ hl R fun v H1 R1 => hb B F0 (some (.v x) :: st) (some v :: vst) σ H1 _ (by simp [hl]) R1 fun u H2 R2 =>
    hr H2 v u Q R2.drop.den R2.den fun w hw => k w H2 (R2.drop.drop.pushS hw)
theorem ev_cmp {op : CmpOp} {q : R2} (ho : OpR X (compareOp op) q) (ha : Ev X a ρ (.v x) ρ1) (hb : Ev X b ρ1 (.v y) ρ2) (hm : behindInMarks op b = false)
    (hr : ∀ (H : Hp) (v u : V) (Q : VK), Den X.K H v x → Den X.K H u y → (∀ w, (∀ F, Den X.K F w z) → Q w H) → q v u H Q) : Ev X (.Compare a [op] [b] pos) ρ (.v z) ρ2 :=
  ev_of (pe_cmpR ho (pe_u X a) (pe_u X b) hm) fun B F0 st vst σ H Q hl R k => ha B F0 st vst σ H _ hl R fun v H1 R1 => hb B F0 (some (.v x) :: st) (some v :: vst) σ H1 _ (by simp [hl]) R1 fun u H2 R2 =>
    hr H2 v u Q R2.drop.den R2.den fun w hw => k w H2 (R2.drop.drop.pushS hw)
theorem ev_un {op : UnaryOp} {q : V → Hp → VK → Prop} (ho : UnR X (unaryOp op) q) (ha : Ev X a ρ (.v x) ρ1) (hr : ∀ (H : Hp) (v : V) (Q : VK), Den X.K H v x → (∀ w, (∀ F, Den X.K F w z) → Q w H) → q v H Q) : Ev X (.UnaryOp op a pos) ρ (.v z) ρ1 :=
  ev_of (pe_un ho (pe_u X a)) fun B F0 st vst σ H Q hl R k => ha B F0 st vst σ H _ hl R fun v H1 R1 => hr H1 v Q R1.den fun w hw => k w H1 (R1.drop.pushS hw)
theorem den_ii {K : PySem.W.Frag} {H : Hp} {v u : V} {i j : Int} (hv : Den K H v (.int i)) (hu : Den K H u (.int j)) : v = .int i ∧ u = .int j := by cases hv; cases hu; exact ⟨rfl, rfl⟩
theorem den_ss {K : PySem.W.Frag} {H : Hp} {v u : V} {i j : Str} (hv : Den K H v (.str i)) (hu : Den K H u (.str j)) : v = .str i ∧ u = .str j := by cases hv; cases hu; exact ⟨rfl, rfl⟩
theorem i2 {K : PySem.W.Frag} {i j n : Int} (H : Hp) (v u : V) (Q : VK) (hv : Den K H v (.int i)) (hu : Den K H u (.int j)) (k : ∀ w, (∀ F, Den K F w (.int n)) → Q w H) : rI0 (fun _ _ => .int n) v u H Q := by
  obtain ⟨rfl, rfl⟩ := den_ii hv hu
  exact ⟨i, j, rfl, rfl, k _ fun _ => .int n⟩
section
variable {i j : Int}
theorem ev_add (ha : Ev X a ρ (.v (.int i)) ρ1) (hb : Ev X b ρ1 (.v (.int j)) ρ2) : Ev X (.BinOp a .Add b pos) ρ (.v (.int (i + j))) ρ2 := ev_op op_add ha hb fun H v u Q hv hu k => by
  obtain ⟨rfl, rfl⟩ := den_ii hv hu; exact ⟨i, j, rfl, rfl, k _ fun _ => .int _⟩
theorem ev_sub (ha : Ev X a ρ (.v (.int i)) ρ1) (hb : Ev X b ρ1 (.v (.int j)) ρ2) : Ev X (.BinOp a .Sub b pos) ρ (.v (.int (i - j))) ρ2 := ev_op op_sub ha hb fun H v u Q hv hu k => by
  obtain ⟨rfl, rfl⟩ := den_ii hv hu; exact ⟨i, j, rfl, rfl, k _ fun _ => .int _⟩
theorem ev_mul (ha : Ev X a ρ (.v (.int i)) ρ1) (hb : Ev X b ρ1 (.v (.int j)) ρ2) (hc : CMul i j) : Ev X (.BinOp a .Mult b pos) ρ (.v (.int (i * j))) ρ2 := ev_op op_mul ha hb fun H v u Q hv hu k => by
  obtain ⟨rfl, rfl⟩ := den_ii hv hu; exact ⟨i, j, rfl, rfl, hc, k _ fun _ => .int _⟩
theorem ev_fdiv (ha : Ev X a ρ (.v (.int i)) ρ1) (hb : Ev X b ρ1 (.v (.int j)) ρ2) (hc : CDiv i j) : Ev X (.BinOp a .FloorDiv b pos) ρ (.v (.int (i / j))) ρ2 := ev_op op_fdiv ha hb fun H v u Q hv hu k => by
  obtain ⟨rfl, rfl⟩ := den_ii hv hu; exact ⟨i, j, rfl, rfl, hc, k _ fun _ => .int _⟩
theorem ev_mod (ha : Ev X a ρ (.v (.int i)) ρ1) (hb : Ev X b ρ1 (.v (.int j)) ρ2) (hc : 0 < j) : Ev X (.BinOp a .Mod b pos) ρ (.v (.int (i % j))) ρ2 := ev_op op_mod ha hb fun H v u Q hv hu k => by
  obtain ⟨rfl, rfl⟩ := den_ii hv hu; exact ⟨i, j, rfl, rfl, hc, k _ fun _ => .int _⟩
theorem ev_pow (ha : Ev X a ρ (.v (.int i)) ρ1) (hb : Ev X b ρ1 (.v (.int j)) ρ2) (hc : CPow i j) : Ev X (.BinOp a .Pow b pos) ρ (.v (.int (i ^ j.toNat))) ρ2 := ev_op op_pow ha hb fun H v u Q hv hu k => by
  obtain ⟨rfl, rfl⟩ := den_ii hv hu; exact ⟨i, j, rfl, rfl, hc, k _ fun _ => .int _⟩
theorem ev_shr (ha : Ev X a ρ (.v (.int i)) ρ1) (hb : Ev X b ρ1 (.v (.int j)) ρ2) (hc : 0 ≤ j) : Ev X (.BinOp a .RShift b pos) ρ (.v (.int (i / 2 ^ j.toNat))) ρ2 := ev_op op_shr ha hb fun H v u Q hv hu k => by
  obtain ⟨rfl, rfl⟩ := den_ii hv hu; exact ⟨i, j, rfl, rfl, hc, k _ fun _ => .int _⟩
theorem ev_shl (ha : Ev X a ρ (.v (.int i)) ρ1) (hb : Ev X b ρ1 (.v (.int j)) ρ2) (hc : CPow i j) : Ev X (.BinOp a .LShift b pos) ρ (.v (.int (i * 2 ^ j.toNat))) ρ2 := ev_op op_shl ha hb fun H v u Q hv hu k => by
  obtain ⟨rfl, rfl⟩ := den_ii hv hu; exact ⟨i, j, rfl, rfl, hc, k _ fun _ => .int _⟩
theorem ev_and_i (ha : Ev X a ρ (.v (.int i)) ρ1) (hb : Ev X b ρ1 (.v (.int j)) ρ2) : Ev X (.BinOp a .BitAnd b pos) ρ (.v (.int (Builtin.bitAnd i j))) ρ2 := ev_op op_and ha hb fun H v u Q hv hu k => by
  obtain ⟨rfl, rfl⟩ := den_ii hv hu; exact ⟨i, j, rfl, rfl, k _ fun _ => .int _⟩
theorem ev_neg (ha : Ev X a ρ (.v (.int i)) ρ1) : Ev X (.UnaryOp .USub a pos) ρ (.v (.int (-i))) ρ1 := ev_un un_neg ha fun H v Q hv k => by
  cases hv; exact ⟨i, rfl, k _ fun _ => .int _⟩
theorem ev_lt (ha : Ev X a ρ (.v (.int i)) ρ1) (hb : Ev X b ρ1 (.v (.int j)) ρ2) : Ev X (.Compare a [.Lt] [b] pos) ρ (.v (.bl (decide (i < j)))) ρ2 := ev_cmp op_lt ha hb (nomark _) fun H v u Q hv hu k => by
  obtain ⟨rfl, rfl⟩ := den_ii hv hu; exact ⟨i, j, rfl, rfl, k _ fun _ => .bl _⟩
theorem ev_le (ha : Ev X a ρ (.v (.int i)) ρ1) (hb : Ev X b ρ1 (.v (.int j)) ρ2) : Ev X (.Compare a [.LtE] [b] pos) ρ (.v (.bl (decide (i ≤ j)))) ρ2 := ev_cmp op_le ha hb (nomark _) fun H v u Q hv hu k => by
  obtain ⟨rfl, rfl⟩ := den_ii hv hu; exact ⟨i, j, rfl, rfl, k _ fun _ => .bl _⟩
theorem ev_gt (ha : Ev X a ρ (.v (.int i)) ρ1) (hb : Ev X b ρ1 (.v (.int j)) ρ2) : Ev X (.Compare a [.Gt] [b] pos) ρ (.v (.bl (decide (j < i)))) ρ2 := ev_cmp op_gt ha hb (nomark _) fun H v u Q hv hu k => by
  obtain ⟨rfl, rfl⟩ := den_ii hv hu; exact ⟨i, j, rfl, rfl, k _ fun _ => .bl _⟩
theorem ev_ge (ha : Ev X a ρ (.v (.int i)) ρ1) (hb : Ev X b ρ1 (.v (.int j)) ρ2) : Ev X (.Compare a [.GtE] [b] pos) ρ (.v (.bl (decide (j ≤ i)))) ρ2 := ev_cmp op_ge ha hb (nomark _) fun H v u Q hv hu k => by
  obtain ⟨rfl, rfl⟩ := den_ii hv hu; exact ⟨i, j, rfl, rfl, k _ fun _ => .bl _⟩
end
theorem ev_addS {i j : Str} (ha : Ev X a ρ (.v (.str i)) ρ1) (hb : Ev X b ρ1 (.v (.str j)) ρ2) (hz : i.length + j.length ≤ sizeLine) : Ev X (.BinOp a .Add b pos) ρ (.v (.str (i ++ j))) ρ2 := ev_op op_add_str ha hb fun H v u Q hv hu k => by
  obtain ⟨rfl, rfl⟩ := den_ss hv hu; exact ⟨i, j, rfl, rfl, hz, k _ fun _ => .str _⟩
theorem ev_ltS {i j : Str} (ha : Ev X a ρ (.v (.str i)) ρ1) (hb : Ev X b ρ1 (.v (.str j)) ρ2) : Ev X (.Compare a [.Lt] [b] pos) ρ (.v (.bl (decide (i.cps.toList < j.cps.toList)))) ρ2 := ev_cmp op_lt_str ha hb (nomark _) fun H v u Q hv hu k => by
  obtain ⟨rfl, rfl⟩ := den_ss hv hu; exact ⟨i, j, rfl, rfl, k _ fun _ => .bl _⟩
/-- is None -/
def D.isN : D → Bool | .non => true | _ => false
theorem den_isN {K : PySem.W.Frag} {H : Hp} {v : V} (h : Den K H v d) : decide (v = V.non) = d.isN := by cases h <;> rfl
theorem ev_isN {j pos'} (ha : Ev X a ρ (.v d) ρ1) : Ev X (.Compare a [.Is] [.Constant .none j pos'] pos) ρ (.v (.bl d.isN)) ρ1 := ev_of (pe_cmp (pc_isN (pe_u X a)) (nomark _)) fun B F0 st vst σ H Q hl R k => ha B F0 st vst σ H _ hl R fun v H1 R1 => by
  rw [den_isN R1.den]; exact k _ H1 (R1.drop.pushS fun _ => .bl _)
theorem ev_notN {j pos'} (ha : Ev X a ρ (.v d) ρ1) : Ev X (.Compare a [.IsNot] [.Constant .none j pos'] pos) ρ (.v (.bl (!d.isN))) ρ1 := ev_of (pe_cmp (pc_notN (pe_u X a)) (nomark _)) fun B F0 st vst σ H Q hl R k => ha B F0 st vst σ H _ hl R fun v H1 R1 => by
  rw [den_isN R1.den]; exact k _ H1 (R1.drop.pushS fun _ => .bl _)

/-! ### and, or, not as values; tests -/
theorem ev_one {op} (h : Ev X a ρ r ρ1) : Ev X (.BoolOp op [a] pos) ρ r ρ1 := ev_of (pe_one (pe_u X a)) fun B F0 st vst σ H Q hl R k => h B F0 st vst σ H Q hl R k
theorem ev_and {rest : List Expr} {c d : Bool} (ha : Ev X a ρ (.v (.bl c)) ρ1) (hb : c = true → Ev X (.BoolOp .And (b :: rest) pos) ρ1 (.v (.bl d)) ρ2) (hn : c = false → ρ2 = ρ1 := by intro _; rfl) : Ev X (.BoolOp .And (a :: b :: rest) pos) ρ (.v (.bl (c && d))) ρ2 :=
  ev_of (pe_and (pe_u X a) (pe_u X (.BoolOp .And (b :: rest) pos))) fun B F0 st vst σ H Q hl R k => ha B F0 st vst σ H _ hl R fun v H1 R1 => by
    refine ⟨c, R1.headB, ?_⟩
    cases c with
    | true => exact hb rfl B F0 st vst σ H1 Q hl R1.drop k
    | false =>
      rw [hn rfl] at k
      exact k _ H1 (R1.drop.pushS fun _ => .bl _)
theorem ev_or {rest : List Expr} {c d : Bool} (ha : Ev X a ρ (.v (.bl c)) ρ1) (hb : c = false → Ev X (.BoolOp .Or (b :: rest) pos) ρ1 (.v (.bl d)) ρ2) (hn : c = true → ρ2 = ρ1 := by intro _; rfl) : Ev X (.BoolOp .Or (a :: b :: rest) pos) ρ (.v (.bl (c || d))) ρ2 :=
  ev_of (pe_or (pe_u X a) (pe_u X (.BoolOp .Or (b :: rest) pos))) fun B F0 st vst σ H Q hl R k => ha B F0 st vst σ H _ hl R fun v H1 R1 => by
    refine ⟨c, R1.headB, ?_⟩
    cases c with
    | false => exact hb rfl B F0 st vst σ H1 Q hl R1.drop k
    | true =>
      rw [hn rfl] at k
      exact k _ H1 (R1.drop.pushS fun _ => .bl _)
theorem ev_not {c : Bool} (ha : Ev X a ρ (.v (.bl c)) ρ1) : Ev X (.UnaryOp .Not a pos) ρ (.v (.bl (!c))) ρ1 := ev_of (pe_not (pe_u X a)) fun B F0 st vst σ H Q hl R k => ha B F0 st vst σ H _ hl R fun v H1 R1 => by
  exact ⟨c, R1.headB, k _ H1 (R1.drop.pushS fun _ => .bl _)⟩
theorem tv_of {bo : Bool} {t : TT} (ht : PT X e t) (h : ∀ (B F0 : Hp) (st : Rho) (vst : St) (σ : St) (H : Hp) (Q : Bool → Hp → Prop), vst.length = st.length → Rl X.K B F0 (st ++ ρ) (vst ++ σ) H →
    (∀ H', Rl X.K B F0 (st ++ ρ1) (vst ++ σ) H' → Q bo H') → t σ H Q) : Tv X e ρ bo ρ1 := fun B F0 st vst σ H Q hl R k => ⟨t, ht, h B F0 st vst σ H Q hl R k⟩
/-- how true a thing is -/
def D.tru : D → Bool
  | .non => false | .bl b => b | .int i => i != 0 | .str x => x.length != 0 | .ty _ => true | .ref _ => true
  | .tup xs => xs.length != 0 | .lst xs => xs.length != 0 | .dic kvs => kvs.length != 0 | .dit kvs => kvs.length != 0 | .obj _ _ => true
/-- a comparison, a call: a value that is a bool, as a test -/
theorem tv_val {bo : Bool} (h : Ev X e ρ (.v (.bl bo)) ρ1) (he : ∀ whole, isTrue e X.env whole = (do let v ← whole; standAt e.pos; holding [v] (truthy v)) := by intro _; rfl) : Tv X e ρ bo ρ1 :=
  tv_of (pt_val (pe_u X e) he) fun B F0 st vst σ H Q hl R k => h B F0 st vst σ H _ hl R fun v H1 R1 => ⟨bo, R1.headB, k H1 R1.drop⟩
theorem tv_not {bo : Bool} (h : Tv X a ρ bo ρ1) : Tv X (.UnaryOp .Not a pos) ρ (!bo) ρ1 := tv_of (pt_not (pt_u X a)) fun B F0 st vst σ H Q hl R k => h B F0 st vst σ H _ hl R fun H1 R1 => k H1 R1
end
end Vl
end
section
set_option maxRecDepth 100000
namespace Vl
open PySem L2

/-! ### comparisons by values -/
/-- op of plain data x and y is bo -/
def CmpV (X : Cx) (op : CmpOp) (x y : D) (bo : Bool) : Prop := ∃ q : R2, OpR X (compareOp op) q ∧ ∀ (H : Hp) (v u : V) (Q : VK), Den X.K H v x → Den X.K H u y → Q (.bl bo) H → q v u H Q
section
variable {X : Cx} {e a b c : Expr} {es rest : List Expr} {ρ ρ1 ρ2 ρ3 : Rho} {d x y z : D} {r t : T} {pos p p2 : Pos} {i : Nat} {op op' : CmpOp} {bo bo' : Bool}
theorem ev_cmpv (ha : Ev X a ρ (.v x) ρ1) (hb : Ev X b ρ1 (.v y) ρ2) (hc : CmpV X op x y bo) (hm : behindInMarks op b = false := by first | exact nomark _ | rfl) : Ev X (.Compare a [op] [b] pos) ρ (.v (.bl bo)) ρ2 := by
  obtain ⟨q, ho, hq⟩ := hc
  exact ev_cmp ho ha hb hm fun H v u Q hv hu k => hq H v u Q hv hu (k _ fun _ => .bl _)
theorem tv_cmpv (ha : Ev X a ρ (.v x) ρ1) (hb : Ev X b ρ1 (.v y) ρ2) (hc : CmpV X op x y bo) (hm : behindInMarks op b = false := by first | exact nomark _ | rfl) : Tv X (.Compare a [op] [b] pos) ρ bo ρ2 := by
  obtain ⟨q, ho, hq⟩ := hc
  exact tv_of (pt_cmpR ho (pe_u X a) (pe_u X b) hm) fun B F0 st vst σ H Q hl R k => ha B F0 st vst σ H _ hl R fun v H1 R1 => hb B F0 (some (.v x) :: st) (some v :: vst) σ H1 _ (by simp [hl]) R1 fun u H2 R2 =>
    hq H2 v u _ R2.drop.den R2.den ⟨bo, rfl, k H2 R2.drop.drop⟩
theorem tv_chain (ha : Ev X a ρ (.v x) ρ1) (hb : Ev X b ρ1 (.v y) ρ2) (hc : bo = true → Ev X c ρ2 (.v z) ρ3) (h1 : CmpV X op x y bo) (h2 : bo = true → CmpV X op' y z bo') (hn : bo = false → ρ3 = ρ2 := by intro _; rfl)
    (hm : lastMarks [op, op'] [b, c] = false := by with_unfolding_all rfl) : Tv X (.Compare a [op, op'] [b, c] pos) ρ (bo && bo') ρ3 := by
  obtain ⟨q, ho, hq⟩ := h1
  cases bo with
  | true =>
    obtain ⟨q', ho', hq'⟩ := h2 rfl
    exact tv_of (pt_chain ho ho' (pe_u X a) (pe_u X b) (pe_u X c) hm) fun B F0 st vst σ H Q hl R k => ha B F0 st vst σ H _ hl R fun v H1 R1 => hb B F0 (some (.v x) :: st) (some v :: vst) σ H1 _ (by simp [hl]) R1 fun u H2 R2 =>
      hq H2 v u _ R2.drop.den R2.den ⟨true, rfl, iteT (hc rfl B F0 (some (.v y) :: some (.v x) :: st) (some u :: some v :: vst) σ H2 _ (by simp [hl]) R2 fun w H3 R3 => hq' H3 u w _ R3.drop.den R3.den ⟨bo', rfl, k H3 R3.drop.drop.drop⟩)⟩
  | false =>
    have no : OpR X (compareOp op') (fun _ _ _ _ => False) := fun _ _ _ _ _ _ _ _ _ _ _ _ h => h.elim
    exact tv_of (pt_chain ho no (pe_u X a) (pe_u X b) (pe_u X c) hm) fun B F0 st vst σ H Q hl R k => by
      rw [hn rfl] at k
      exact ha B F0 st vst σ H _ hl R fun v H1 R1 => hb B F0 (some (.v x) :: st) (some v :: vst) σ H1 _ (by simp [hl]) R1 fun u H2 R2 =>
        hq H2 v u _ R2.drop.den R2.den ⟨false, rfl, iteF ⟨false, rfl, k H2 R2.drop.drop⟩⟩
theorem ev_chain (ha : Ev X a ρ (.v x) ρ1) (hb : Ev X b ρ1 (.v y) ρ2) (hc : bo = true → Ev X c ρ2 (.v z) ρ3) (h1 : CmpV X op x y bo) (h2 : bo = true → CmpV X op' y z bo') (hn : bo = false → ρ3 = ρ2 := by intro _; rfl)
    (hm : lastMarks [op, op'] [b, c] = false := by with_unfolding_all rfl) : Ev X (.Compare a [op, op'] [b, c] pos) ρ (.v (.bl (bo && bo'))) ρ3 := by
  obtain ⟨q, ho, hq⟩ := h1
  cases bo with
  | true =>
    obtain ⟨q', ho', hq'⟩ := h2 rfl
    exact ev_of (pe_chain ho ho' (pe_u X a) (pe_u X b) (pe_u X c) hm) fun B F0 st vst σ H Q hl R k => ha B F0 st vst σ H _ hl R fun v H1 R1 => hb B F0 (some (.v x) :: st) (some v :: vst) σ H1 _ (by simp [hl]) R1 fun u H2 R2 =>
      hq H2 v u _ R2.drop.den R2.den ⟨true, rfl, iteT (hc rfl B F0 (some (.v y) :: some (.v x) :: st) (some u :: some v :: vst) σ H2 _ (by simp [hl]) R2 fun w H3 R3 => hq' H3 u w _ R3.drop.den R3.den (k _ H3 (R3.drop.drop.drop.pushS fun _ => .bl _)))⟩
  | false =>
    have no : OpR X (compareOp op') (fun _ _ _ _ => False) := fun _ _ _ _ _ _ _ _ _ _ _ _ h => h.elim
    exact ev_of (pe_chain ho no (pe_u X a) (pe_u X b) (pe_u X c) hm) fun B F0 st vst σ H Q hl R k => by
      rw [hn rfl] at k
      exact ha B F0 st vst σ H _ hl R fun v H1 R1 => hb B F0 (some (.v x) :: st) (some v :: vst) σ H1 _ (by simp [hl]) R1 fun u H2 R2 =>
        hq H2 v u _ R2.drop.den R2.den ⟨false, rfl, iteF (k _ H2 (R2.drop.drop.pushS fun _ => .bl _))⟩
section
variable {n m : Int} {s1 s2 : Str}
theorem cv_lt : CmpV X .Lt (.int n) (.int m) (decide (n < m)) := ⟨_, op_lt, fun H v u Q hv hu k => by obtain ⟨rfl, rfl⟩ := den_ii hv hu; exact ⟨_, _, rfl, rfl, k⟩⟩
theorem cv_le : CmpV X .LtE (.int n) (.int m) (decide (n ≤ m)) := ⟨_, op_le, fun H v u Q hv hu k => by obtain ⟨rfl, rfl⟩ := den_ii hv hu; exact ⟨_, _, rfl, rfl, k⟩⟩
theorem cv_gt : CmpV X .Gt (.int n) (.int m) (decide (m < n)) := ⟨_, op_gt, fun H v u Q hv hu k => by obtain ⟨rfl, rfl⟩ := den_ii hv hu; exact ⟨_, _, rfl, rfl, k⟩⟩
theorem cv_ge : CmpV X .GtE (.int n) (.int m) (decide (m ≤ n)) := ⟨_, op_ge, fun H v u Q hv hu k => by obtain ⟨rfl, rfl⟩ := den_ii hv hu; exact ⟨_, _, rfl, rfl, k⟩⟩
theorem cv_eqI : CmpV X .Eq (.int n) (.int m) (decide (n = m)) := ⟨_, op_eq, fun H v u Q hv hu k => by
  obtain ⟨rfl, rfl⟩ := den_ii hv hu
  refine ⟨rfl, ?_⟩
  have e : decide (V.int n = V.int m) = decide (n = m) := by by_cases h : n = m <;> simp [h]
  rw [e]; exact k⟩
theorem cv_neI : CmpV X .NotEq (.int n) (.int m) (!decide (n = m)) := ⟨_, op_ne, fun H v u Q hv hu k => by
  obtain ⟨rfl, rfl⟩ := den_ii hv hu
  refine ⟨rfl, ?_⟩
  have e : decide (V.int n = V.int m) = decide (n = m) := by by_cases h : n = m <;> simp [h]
  rw [e]; exact k⟩
theorem cv_eqS : CmpV X .Eq (.str s1) (.str s2) (decide (s1 = s2)) := ⟨_, op_eq, fun H v u Q hv hu k => by
  obtain ⟨rfl, rfl⟩ := den_ss hv hu
  refine ⟨rfl, ?_⟩
  have e : decide (V.str s1 = V.str s2) = decide (s1 = s2) := by by_cases h : s1 = s2 <;> simp [h]
  rw [e]; exact k⟩
theorem cv_neS : CmpV X .NotEq (.str s1) (.str s2) (!decide (s1 = s2)) := ⟨_, op_ne, fun H v u Q hv hu k => by
  obtain ⟨rfl, rfl⟩ := den_ss hv hu
  refine ⟨rfl, ?_⟩
  have e : decide (V.str s1 = V.str s2) = decide (s1 = s2) := by by_cases h : s1 = s2 <;> simp [h]
  rw [e]; exact k⟩
theorem cv_ltS : CmpV X .Lt (.str s1) (.str s2) (decide (s1.cps.toList < s2.cps.toList)) := ⟨_, op_lt_str, fun H v u Q hv hu k => by obtain ⟨rfl, rfl⟩ := den_ss hv hu; exact ⟨_, _, rfl, rfl, k⟩⟩
theorem cv_leS : CmpV X .LtE (.str s1) (.str s2) (!decide (s2.cps.toList < s1.cps.toList)) := ⟨_, op_le_str, fun H v u Q hv hu k => by obtain ⟨rfl, rfl⟩ := den_ss hv hu; exact ⟨_, _, rfl, rfl, k⟩⟩
theorem cv_gtS : CmpV X .Gt (.str s1) (.str s2) (decide (s2.cps.toList < s1.cps.toList)) := ⟨_, op_gt_str, fun H v u Q hv hu k => by obtain ⟨rfl, rfl⟩ := den_ss hv hu; exact ⟨_, _, rfl, rfl, k⟩⟩
end

/-! ### == over any data -/
mutual
def D.py : D → PyData
  | .non => .none
  | .bl b => .bool b
  | .int i => .int i
  | .str x => .str x
  | .tup xs => .tuple (D.pyL xs)
  | .lst xs => .list (D.pyL xs)
  | _ => .dict []
def D.pyL : List D → List PyData
  | [] => []
  | x :: xs => D.py x :: D.pyL xs
end
/-! of data that == is told of here -/
mutual
def D.plain : D → Bool
  | .non => true | .bl _ => true | .int _ => true | .str _ => true
  | .tup xs => D.plainL xs
  | .lst xs => D.plainL xs
  | _ => false
def D.plainL : List D → Bool
  | [] => true
  | x :: xs => D.plain x && D.plainL xs
end
theorem D.plain_tup {xs : List D} (h : (D.tup xs).plain = true) : D.plainL xs = true := by simpa [D.plain] using h
theorem den_dp_tup {K : PySem.W.Frag} {H : Hp} {v : V} {xs : List D} (h : Den K H v (.tup xs)) : ∃ a us, v = .ref a ∧ H a = some (.tup us) ∧ DenL K H us xs := by
  cases h with
  | tup e q => exact ⟨_, _, rfl, e, q⟩
theorem den_dp_lst {K : PySem.W.Frag} {H : Hp} {v : V} {xs : List D} (h : Den K H v (.lst xs)) : ∃ a us, v = .ref a ∧ SqL K H a us ∧ DenL K H us xs := by
  cases h with
  | lst e q => exact ⟨_, _, rfl, e, q⟩
end
mutual
theorem Den.dp {K : PySem.W.Frag} {H : Hp} : ∀ {v : V} {d : D}, Den K H v d → d.plain = true → Dp K H v d.py
  | _, .non, h, _ => by cases h; rw [D.py]; exact .non
  | _, .bl b, h, _ => by cases h; rw [D.py]; exact .bl b
  | _, .int i, h, _ => by cases h; rw [D.py]; exact .int i
  | _, .str x, h, _ => by cases h; rw [D.py]; exact .str x
  | _, .tup xs, h, p => by
    rw [D.py]
    rw [D.plain] at p
    cases h with
    | tup e q => exact .tup (SqT.of e) (DenL.dp q p)
  | _, .lst xs, h, p => by
    rw [D.py]
    rw [D.plain] at p
    cases h with
    | lst e q => exact .lst e (DenL.dp q p)
  | _, .ty _, _, p => by simp [D.plain] at p
  | _, .ref _, _, p => by simp [D.plain] at p
  | _, .dic _, _, p => by simp [D.plain] at p
  | _, .dit _, _, p => by simp [D.plain] at p
  | _, .obj _ _, _, p => by simp [D.plain] at p
theorem DenL.dp {K : PySem.W.Frag} {H : Hp} : ∀ {vs : List V} {ds : List D}, DenL K H vs ds → D.plainL ds = true → DpAll K H vs (D.pyL ds)
  | _, [], h, _ => by cases h; rw [D.pyL]; exact .nil
  | _, d :: ds, h, p => by
    rw [D.pyL]
    rw [D.plainL, Bool.and_eq_true] at p
    cases h with
    | cons h1 h2 => exact .cons (Den.dp h1 p.1) (DenL.dp h2 p.2)
end
section
variable {X : Cx} {x y : D}
theorem cv_eqD (hu : X.A.units + 64 < cLine) (px : x.plain = true) (py : y.plain = true) (sx : SeqAt.shaped x.py = true) (sy : SeqAt.shaped y.py = true) : CmpV X .Eq x y (PyData.eqv x.py y.py) :=
  ⟨_, op_eqD hu, fun H v u Q hv hu k => ⟨_, _, hv.dp px, hu.dp py, sx, sy, k⟩⟩
theorem cv_neD (hu : X.A.units + 64 < cLine) (px : x.plain = true) (py : y.plain = true) (sx : SeqAt.shaped x.py = true) (sy : SeqAt.shaped y.py = true) : CmpV X .NotEq x y (!PyData.eqv x.py y.py) :=
  ⟨_, op_neD hu, fun H v u Q hv hu k => ⟨_, _, hv.dp px, hu.dp py, sx, sy, k⟩⟩
end
/-! without truth values == is equality -/
mutual
def D.sane : D → Bool
  | .non => true | .int _ => true | .str x => PyData.strOk x
  | .tup xs => D.saneL xs
  | .lst xs => D.saneL xs
  | _ => false
def D.saneL : List D → Bool
  | [] => true
  | x :: xs => D.sane x && D.saneL xs
end
mutual
theorem D.sane_plain : ∀ d : D, d.sane = true → d.plain = true
  | .non, _ => by simp [D.plain]
  | .int _, _ => by simp [D.plain]
  | .str _, _ => by simp [D.plain]
  | .tup xs, h => by rw [D.plain]; rw [D.sane] at h; exact D.saneL_plain xs h
  | .lst xs, h => by rw [D.plain]; rw [D.sane] at h; exact D.saneL_plain xs h
  | .bl _, h => by simp [D.sane] at h
  | .ty _, h => by simp [D.sane] at h
  | .ref _, h => by simp [D.sane] at h
  | .dic _, h => by simp [D.sane] at h
  | .dit _, h => by simp [D.sane] at h
  | .obj _ _, h => by simp [D.sane] at h
theorem D.saneL_plain : ∀ ds : List D, D.saneL ds = true → D.plainL ds = true
  | [], _ => by simp [D.plainL]
  | d :: ds, h => by
    rw [D.plainL, Bool.and_eq_true]
    rw [D.saneL, Bool.and_eq_true] at h
    exact ⟨D.sane_plain d h.1, D.saneL_plain ds h.2⟩
end
mutual
theorem D.sane_lay : ∀ d : D, d.sane = true → d.py.canLay0 = true
  | .non, _ => by simp [D.py, PyData.canLay0]
  | .int _, _ => by simp [D.py, PyData.canLay0]
  | .str _, h => by rw [D.sane] at h; simp [D.py, PyData.canLay0, h]
  | .tup xs, h => by rw [D.sane] at h; rw [D.py, PyData.canLay0]; exact D.saneL_lay xs h
  | .lst xs, h => by rw [D.sane] at h; rw [D.py, PyData.canLay0]; exact D.saneL_lay xs h
  | .bl _, h => by simp [D.sane] at h
  | .ty _, h => by simp [D.sane] at h
  | .ref _, h => by simp [D.sane] at h
  | .dic _, h => by simp [D.sane] at h
  | .dit _, h => by simp [D.sane] at h
  | .obj _ _, h => by simp [D.sane] at h
theorem D.saneL_lay : ∀ ds : List D, D.saneL ds = true → PyData.canLayAll0 (D.pyL ds) = true
  | [], _ => by simp [D.pyL, PyData.canLayAll0]
  | d :: ds, h => by
    rw [D.saneL, Bool.and_eq_true] at h
    rw [D.pyL, PyData.canLayAll0, Bool.and_eq_true]
    exact ⟨D.sane_lay d h.1, D.saneL_lay ds h.2⟩
end
mutual
theorem D.eqv_iff : ∀ x y : D, x.sane = true → y.sane = true → (PyData.eqv x.py y.py = true ↔ x = y)
  | .non, .non, _, _ => by simp [D.py, PyData.eqv]
  | .non, .int _, _, _ => by simp [D.py, PyData.eqv]
  | .non, .str _, _, _ => by simp [D.py, PyData.eqv]
  | .non, .tup _, _, _ => by simp [D.py, PyData.eqv]
  | .non, .lst _, _, _ => by simp [D.py, PyData.eqv]
  | .int _, .non, _, _ => by simp [D.py, PyData.eqv]
  | .int _, .int _, _, _ => by simp [D.py, PyData.eqv]
  | .int _, .str _, _, _ => by simp [D.py, PyData.eqv]
  | .int _, .tup _, _, _ => by simp [D.py, PyData.eqv]
  | .int _, .lst _, _, _ => by simp [D.py, PyData.eqv]
  | .str _, .non, _, _ => by simp [D.py, PyData.eqv]
  | .str _, .int _, _, _ => by simp [D.py, PyData.eqv]
  | .str _, .str _, _, _ => by simp [D.py, PyData.eqv]
  | .str _, .tup _, _, _ => by simp [D.py, PyData.eqv]
  | .str _, .lst _, _, _ => by simp [D.py, PyData.eqv]
  | .tup _, .non, _, _ => by simp [D.py, PyData.eqv]
  | .tup _, .int _, _, _ => by simp [D.py, PyData.eqv]
  | .tup _, .str _, _, _ => by simp [D.py, PyData.eqv]
  | .tup _, .lst _, _, _ => by simp [D.py, PyData.eqv]
  | .lst _, .non, _, _ => by simp [D.py, PyData.eqv]
  | .lst _, .int _, _, _ => by simp [D.py, PyData.eqv]
  | .lst _, .str _, _, _ => by simp [D.py, PyData.eqv]
  | .lst _, .tup _, _, _ => by simp [D.py, PyData.eqv]
  | .tup xs, .tup ys, hx, hy => by
    rw [D.sane] at hx hy
    rw [D.py, D.py, PyData.eqv, D.eqvAll_iff xs ys hx hy]
    simp
  | .lst xs, .lst ys, hx, hy => by
    rw [D.sane] at hx hy
    rw [D.py, D.py, PyData.eqv, D.eqvAll_iff xs ys hx hy]
    simp
  | .bl _, _, h, _ => by simp [D.sane] at h
  | .ty _, _, h, _ => by simp [D.sane] at h
  | .ref _, _, h, _ => by simp [D.sane] at h
  | .dic _, _, h, _ => by simp [D.sane] at h
  | .dit _, _, h, _ => by simp [D.sane] at h
  | .obj _ _, _, h, _ => by simp [D.sane] at h
  | _, .bl _, _, h => by simp [D.sane] at h
  | _, .ty _, _, h => by simp [D.sane] at h
  | _, .ref _, _, h => by simp [D.sane] at h
  | _, .dic _, _, h => by simp [D.sane] at h
  | _, .dit _, _, h => by simp [D.sane] at h
  | _, .obj _ _, _, h => by simp [D.sane] at h
theorem D.eqvAll_iff : ∀ xs ys : List D, D.saneL xs = true → D.saneL ys = true → (PyData.eqvAll (D.pyL xs) (D.pyL ys) = true ↔ xs = ys)
  | [], [], _, _ => by simp [D.pyL, PyData.eqvAll]
  | [], _ :: _, _, _ => by simp [D.pyL, PyData.eqvAll]
  | _ :: _, [], _, _ => by simp [D.pyL, PyData.eqvAll]
  | x :: xs, y :: ys, hx, hy => by
    rw [D.saneL, Bool.and_eq_true] at hx hy
    rw [D.pyL, D.pyL, PyData.eqvAll, Bool.and_eq_true, D.eqv_iff x y hx.1 hy.1, D.eqvAll_iff xs ys hx.2 hy.2]
    simp
end
/-! how deep -/
mutual
def D.deep : D → Nat
  | .tup xs => D.deepL xs + 1
  | .lst xs => D.deepL xs + 1
  | _ => 0
def D.deepL : List D → Nat
  | [] => 0
  | x :: xs => max (D.deep x) (D.deepL xs)
end
end Vl
end
section
set_option maxRecDepth 100000
namespace Vl
open PySem L2
mutual
theorem D.sane_deep : ∀ d : D, d.sane = true → d.py.depth = d.deep
  | .non, _ => by simp [D.py, PyData.depth, D.deep]
  | .int _, _ => by simp [D.py, PyData.depth, D.deep]
  | .str _, _ => by simp [D.py, PyData.depth, D.deep]
  | .tup xs, h => by rw [D.sane] at h; rw [D.py, PyData.depth, D.deep, D.saneL_deep xs h]
  | .lst xs, h => by rw [D.sane] at h; rw [D.py, PyData.depth, D.deep, D.saneL_deep xs h]
  | .bl _, h => by simp [D.sane] at h
  | .ty _, h => by simp [D.sane] at h
  | .ref _, h => by simp [D.sane] at h
  | .dic _, h => by simp [D.sane] at h
  | .dit _, h => by simp [D.sane] at h
  | .obj _ _, h => by simp [D.sane] at h
theorem D.saneL_deep : ∀ ds : List D, D.saneL ds = true → PyData.depthAll (D.pyL ds) = D.deepL ds
  | [], _ => by simp [D.pyL, PyData.depthAll, D.deepL]
  | d :: ds, h => by
    rw [D.saneL, Bool.and_eq_true] at h
    rw [D.pyL, PyData.depthAll, D.deepL, D.sane_deep d h.1, D.saneL_deep ds h.2]
end
/-- sane and not too deep -/
def D.fine (d : D) : Prop := d.sane = true ∧ d.deep ≤ 64
theorem D.fine_shaped {d : D} (h : d.fine) : SeqAt.shaped d.py = true := by
  unfold SeqAt.shaped
  rw [Bool.and_eq_true]
  exact ⟨D.sane_lay d h.1, decide_eq_true (by rw [D.sane_deep d h.1]; exact h.2)⟩
section
variable {X : Cx} {x y : D} {bo : Bool}
theorem cv_eq (hu : X.A.units + 64 < cLine) (hx : x.fine) (hy : y.fine) (hb : bo = true ↔ x = y) : CmpV X .Eq x y bo := by
  have h := cv_eqD hu (D.sane_plain x hx.1) (D.sane_plain y hy.1) (D.fine_shaped hx) (D.fine_shaped hy)
  have e : PyData.eqv x.py y.py = bo := by
    rw [Bool.eq_iff_iff, D.eqv_iff x y hx.1 hy.1, hb]
  rw [e] at h; exact h
theorem cv_ne (hu : X.A.units + 64 < cLine) (hx : x.fine) (hy : y.fine) (hb : bo = true ↔ x ≠ y) : CmpV X .NotEq x y bo := by
  have h := cv_neD hu (D.sane_plain x hx.1) (D.sane_plain y hy.1) (D.fine_shaped hx) (D.fine_shaped hy)
  have e : (!PyData.eqv x.py y.py) = bo := by
    rw [Bool.eq_iff_iff, hb]
    have q := D.eqv_iff x y hx.1 hy.1
    cases z : PyData.eqv x.py y.py
    · rw [z] at q; simp at q ⊢; exact q
    · rw [z] at q; simp at q ⊢; exact q
  rw [e] at h; exact h
end

section
variable {X : Cx} {e a b c : Expr} {es rest : List Expr} {ρ ρ1 ρ2 ρ3 : Rho} {d x y z : D} {r t : T} {ts : List T} {ds : List D} {pos p p2 : Pos} {i : Nat} {bo bo' : Bool}
/-! ### and, or, conditional expressions as tests -/
def TvW (X : Cx) (e : Expr) (ρ : Rho) (b : Bool) (ρ' : Rho) : Prop :=
  ∀ (B F0 : Hp) (st : Rho) (vst : St) (σ : St) (H : Hp) (Q : Bool → Hp → Prop), vst.length = st.length → Rl X.K B F0 (st ++ ρ) (vst ++ σ) H →
    (∀ H', Rl X.K B F0 (st ++ ρ') (vst ++ σ) H' → Q b H') → ∃ t, PW X e t ∧ t σ H Q
def tW (X : Cx) (e : Expr) : TT := fun σ H Q => ∃ t, PW X e t ∧ t σ H Q
theorem pw_u (X : Cx) (e : Expr) : PW X e (tW X e) := ⟨fun wh pins s σ H Q I h => let ⟨_, p, q⟩ := h; p.run wh pins s σ H Q I q⟩
theorem tv_w (h : TvW X e ρ bo ρ1) : Tv X e ρ bo ρ1 := fun B F0 st vst σ H Q hl R k => let ⟨t, p, q⟩ := h B F0 st vst σ H Q hl R k; ⟨t, p.pt, q⟩
theorem tw_and1 (h : Tv X a ρ bo ρ1) : TvW X (.BoolOp .And [a] pos) ρ bo ρ1 := fun B F0 st vst σ H Q hl R k => ⟨_, pw_and1 (pt_u X a), h B F0 st vst σ H Q hl R k⟩
theorem tw_or1 (h : Tv X a ρ bo ρ1) : TvW X (.BoolOp .Or [a] pos) ρ bo ρ1 := fun B F0 st vst σ H Q hl R k => ⟨_, pw_or1 (pt_u X a), h B F0 st vst σ H Q hl R k⟩
theorem tw_and (ha : Tv X a ρ bo ρ1) (hb : bo = true → TvW X (.BoolOp .And (b :: rest) pos) ρ1 bo' ρ2) (hn : bo = false → ρ2 = ρ1 := by intro _; rfl) : TvW X (.BoolOp .And (a :: b :: rest) pos) ρ (bo && bo') ρ2 := fun B F0 st vst σ H Q hl R k =>
  ⟨_, pw_and (pt_u X a) (pw_u X (.BoolOp .And (b :: rest) pos)), ha B F0 st vst σ H _ hl R fun H1 R1 => by
    cases bo with
    | true => exact iteT (hb rfl B F0 st vst σ H1 Q hl R1 k)
    | false =>
      rw [hn rfl] at k
      exact iteF (k H1 R1)⟩
theorem tw_or (ha : Tv X a ρ bo ρ1) (hb : bo = false → TvW X (.BoolOp .Or (b :: rest) pos) ρ1 bo' ρ2) (hn : bo = true → ρ2 = ρ1 := by intro _; rfl) : TvW X (.BoolOp .Or (a :: b :: rest) pos) ρ (bo || bo') ρ2 := fun B F0 st vst σ H Q hl R k =>
  ⟨_, pw_or (pt_u X a) (pw_u X (.BoolOp .Or (b :: rest) pos)), ha B F0 st vst σ H _ hl R fun H1 R1 => by
    cases bo with
    | false => exact iteF (hb rfl B F0 st vst σ H1 Q hl R1 k)
    | true =>
      rw [hn rfl] at k
      exact iteT (k H1 R1)⟩
theorem tv_isN {j pos'} (ha : Ev X a ρ (.v d) ρ1) : Tv X (.Compare a [.Is] [.Constant .none j pos'] pos) ρ d.isN ρ1 := tv_of (pt_cmp (pc_isN (pe_u X a)) (nomark _)) fun B F0 st vst σ H Q hl R k => ha B F0 st vst σ H _ hl R fun v H1 R1 => ⟨_, rfl, by
  rw [den_isN R1.den]; exact k H1 R1.drop⟩
theorem tv_notN {j pos'} (ha : Ev X a ρ (.v d) ρ1) : Tv X (.Compare a [.IsNot] [.Constant .none j pos'] pos) ρ (!d.isN) ρ1 := tv_of (pt_cmp (pc_notN (pe_u X a)) (nomark _)) fun B F0 st vst σ H Q hl R k => ha B F0 st vst σ H _ hl R fun v H1 R1 => ⟨_, rfl, by
  rw [den_isN R1.den]; exact k H1 R1.drop⟩
theorem ev_if (hc : Tv X c ρ bo ρ1) (ha : bo = true → Ev X a ρ1 r ρ2) (hb : bo = false → Ev X b ρ1 r ρ2) : Ev X (.IfExp c a b pos) ρ r ρ2 := ev_of (pe_ifExp (pt_u X c) (pe_u X a) (pe_u X b)) fun B F0 st vst σ H Q hl R k => hc B F0 st vst σ H _ hl R fun H1 R1 => by
  cases bo with
  | true => exact iteT (ha rfl B F0 st vst σ H1 Q hl R1 k)
  | false => exact iteF (hb rfl B F0 st vst σ H1 Q hl R1 k)

/-! ### arguments, displays -/
theorem eva_nil : EvA X [] ρ [] ρ := fun B F0 st vst σ H Q hl R k => ⟨_, pa_nil, k [] H rfl R⟩
theorem eva_cons (ha : Ev X e ρ r ρ1) (hr : EvA X es ρ1 ts ρ2) (hs : starEach (e :: es) X.env = (false, eval e X.env) :: starEach es X.env := by rfl) : EvA X (e :: es) ρ (r :: ts) ρ2 := fun B F0 st vst σ H Q hl R k =>
  ⟨_, pa_cons (pe_u X e) (pa_u X es) hs, ha B F0 st vst σ H _ hl R fun v H1 R1 => hr B F0 (some r :: st) (some v :: vst) σ H1 _ (by simp [hl]) R1 fun vs H2 hl2 R2 => by
    refine k (v :: vs) H2 (by simp [hl2]) ?_
    exact Rl.swap (ρ1 := ts.map some) (σ1 := vs.map some) (ρ2 := [some r]) (σ2 := [some v]) (by simp [hl2]) rfl R2⟩
/-- all let go -/
theorem EvA.frz (h : EvA X es ρ ts ρ1) : EvA X es ρ (ts.map fun t => .v t.d) ρ1 := fun B F0 st vst σ H Q hl R k => h B F0 st vst σ H Q hl R fun vs H1 hl1 R1 => k vs H1 (by simp [hl1]) (by
  have := R1.freezeN hl1
  simpa [List.map_map, Function.comp_def] using this)
theorem EvA.as (h : EvA X es ρ ts ρ1) (e : ts = ds.map T.v) : EvA X es ρ (ds.map T.v) ρ1 := by subst e; exact h
theorem rl_v {K : PySem.W.Frag} {B F0 H : Hp} {ρ : Rho} {σ : St} (ds : List D) (h : Rl K B F0 ((ds.map T.v).map some ++ ρ) σ H) : Rl K B F0 ((ds.map fun d => some (T.v d)) ++ ρ) σ H := by
  rw [List.map_map] at h; exact h
theorem ev_tup {x1} (ha : EvA X es ρ (ds.map T.v) ρ1) (hz : ds.length ≤ 100000) : Ev X (.Tuple es x1 pos) ρ (.v (.tup ds)) ρ1 := ev_of (pe_tup (pa_u X es)) fun B F0 st vst σ H Q hl R k => ha B F0 st vst σ H _ hl R fun vs H1 hl1 R1 => by
  have hl2 : vs.length = ds.length := by simpa using hl1
  exact ⟨by rw [hl2, sizeLine_eq]; omega, fun p hp => k _ _ ((rl_v ds R1).newTup hl2 hp)⟩
theorem ev_lst (ha : EvA X es ρ ts ρ1) (hz : ts.length ≤ 100000) : Ev X (.List es pos) ρ (.lst ts) ρ1 := ev_of (pe_lst (pa_u X es)) fun B F0 st vst σ H Q hl R k => ha B F0 st vst σ H _ hl R fun vs H1 hl1 R1 =>
  ⟨by rw [hl1, sizeLine_eq]; omega, fun p hp => k _ _ (R1.newLst hl1 hp)⟩

/-! ### items and slices -/
theorem DenL.at {K : PySem.W.Frag} {F : Hp} {xs : List V} {ds : List D} (h : DenL K F xs ds) {n : Int} {d : D} (e : atI ds n = some d) : ∃ v, atI xs n = some v ∧ Den K F v d := by
  unfold atI at e ⊢
  rw [h.length]
  cases hx : ixN ds.length n with
  | none => rw [hx] at e; simp at e
  | some j => rw [hx] at e; exact h.get e
theorem ev_ixL {n : Int} (ha : Ev X a ρ (.v (.lst ds)) ρ1) (hb : Ev X b ρ1 (.v (.int n)) ρ2) (he : atI ds n = some d) (hs : PlainIx b := by first | exact fun _ _ => rfl | (intro _ _; rfl)) : Ev X (.Subscript a b pos) ρ (.v d) ρ2 :=
  ev_of (pe_ix ix_list (pe_u X a) (pe_u X b) hs) fun B F0 st vst σ H Q hl R k => ha B F0 st vst σ H _ hl R fun v H1 R1 => hb B F0 (some (.v (.lst ds)) :: st) (some v :: vst) σ H1 _ (by simp [hl]) R1 fun u H2 R2 => by
    obtain ⟨F, eF, hd, mk⟩ := R2.drop.elim
    cases hd with
    | lst hq q =>
      obtain ⟨w, hw, dw⟩ := q.at he
      exact ⟨_, _, n, w, rfl, R2.headI, eF.sqL hq, hw, k w H2 (mk w d dw)⟩
theorem ev_ixT {n : Int} (ha : Ev X a ρ (.v (.tup ds)) ρ1) (hb : Ev X b ρ1 (.v (.int n)) ρ2) (he : atI ds n = some d) (hs : PlainIx b := by first | exact fun _ _ => rfl | (intro _ _; rfl)) : Ev X (.Subscript a b pos) ρ (.v d) ρ2 :=
  ev_of (pe_ix ix_tup (pe_u X a) (pe_u X b) hs) fun B F0 st vst σ H Q hl R k => ha B F0 st vst σ H _ hl R fun v H1 R1 => hb B F0 (some (.v (.tup ds)) :: st) (some v :: vst) σ H1 _ (by simp [hl]) R1 fun u H2 R2 => by
    obtain ⟨F, eF, hd, mk⟩ := R2.drop.elim
    cases hd with
    | tup hq q =>
      obtain ⟨w, hw, dw⟩ := q.at he
      exact ⟨_, _, n, w, rfl, R2.headI, SqT.of (eF.t hq), hw, k w H2 (mk w d dw)⟩
theorem ev_ixS {n : Int} {w : Str} {cc : Nat} (ha : Ev X a ρ (.v (.str w)) ρ1) (hb : Ev X b ρ1 (.v (.int n)) ρ2) (hz : w.length ≤ 100000) (he : atI w.cps.toList n = some cc) (hs : PlainIx b := by first | exact fun _ _ => rfl | (intro _ _; rfl)) : Ev X (.Subscript a b pos) ρ (.v (.str ⟨#[cc]⟩)) ρ2 :=
  ev_of (pe_ix ix_str (pe_u X a) (pe_u X b) hs) fun B F0 st vst σ H Q hl R k => ha B F0 st vst σ H _ hl R fun v H1 R1 => hb B F0 (some (.v (.str w)) :: st) (some v :: vst) σ H1 _ (by simp [hl]) R1 fun u H2 R2 =>
    ⟨w, n, cc, R2.drop.headS, R2.headI, by rw [sizeLine_eq]; omega, he, k _ H2 (R2.drop.drop.pushS fun _ => .str _)⟩
/-- an item of a list that is owned: plain data in it, read where it stands -/
theorem ev_ixO {n : Int} {x : Str} (i : Nat) (hr : ρ[i]? = some (some t)) (ht : t = .lst ts ∨ ∃ a, t = .at_ a (.lst ts)) (hb : Ev X b ρ (.v (.int n)) ρ) (he : atI ts n = some (.v d)) (hN : X.N[i]? = some x := by rfl)
    (hv : Vis X.env.scope x := by first | exact Or.inl rfl | exact Or.inr (Or.inl rfl) | exact Or.inr (Or.inr rfl)) (hd : (x == ("__debug__" : Str)) = false := by decide) (hcd : (x == ("__classdict__" : Str)) = false := by decide)
    (hs : PlainIx b := by first | exact fun _ _ => rfl | (intro _ _; rfl)) : Ev X (.Subscript (.Name x p) b pos) ρ (.v d) ρ := ev_of (pe_ix ix_list (pe_var hN hv hd hcd) (pe_u X b) hs) fun B F0 st vst σ H Q hl R k => by
  obtain ⟨v, _, _, e1, _⟩ := R.slot hl hr
  refine ⟨v, e1, hb B F0 st vst σ H _ hl R fun u H2 R2 => ?_⟩
  obtain ⟨v', F, A, e2, o, eF, mk⟩ := R2.drop.slot hl hr
  rw [e1] at e2; cases e2
  have key : ∀ {a : Addr} {A : List Addr}, Own X.K F H2 (.ref a) (.lst ts) A → ∃ xs w, H2 a = some (.lst xs) ∧ atI xs n = some w ∧ Den X.K F w d := fun {a A} o => by
    cases o with
    | @lst _ xs _ A' h q =>
      have q2 : ∀ {xs : List V} {ts : List T} {A : List Addr}, OwnL X.K F H2 xs ts A → xs.length = ts.length ∧ ∀ {j : Nat}, ts[j]? = some (.v d) → ∃ w, xs[j]? = some w ∧ Den X.K F w d := by
        intro xs ts A h
        induction xs generalizing ts A with
        | nil => cases h; exact ⟨rfl, fun {j} e => by simp at e⟩
        | cons x xs ih =>
          cases h with
          | cons h1 h2 =>
            obtain ⟨l, g⟩ := ih h2
            refine ⟨by simp [l], fun {j} e => ?_⟩
            cases j with
            | zero =>
              simp at e; subst e
              cases h1 with
              | v hd => exact ⟨x, rfl, hd⟩
            | succ j => simpa using g (j := j) (by simpa using e)
      obtain ⟨l, g⟩ := q2 q
      unfold atI at he
      cases hx : ixN ts.length n with
      | none => rw [hx] at he; simp at he
      | some j =>
        rw [hx] at he
        obtain ⟨w, hw, dw⟩ := g he
        exact ⟨xs, w, h, by unfold atI; rw [l, hx]; exact hw, dw⟩
  rcases ht with rfl | ⟨a, rfl⟩
  · cases o with
    | lst h q =>
      obtain ⟨xs, w, h1, h2, h3⟩ := key (.lst h q)
      exact ⟨_, xs, n, w, rfl, R2.headI, SqL.of h1, h2, k w H2 (mk w d h3)⟩
  · cases o with
    | at_ o =>
      obtain ⟨xs, w, h1, h2, h3⟩ := key o
      exact ⟨_, xs, n, w, rfl, R2.headI, SqL.of h1, h2, k w H2 (mk w d h3)⟩
def cutD (xs : List D) (lo hi : Option Int) : List D := (xs.drop (HT.sIx xs.length 0 lo)).take (HT.sIx xs.length xs.length hi - HT.sIx xs.length 0 lo)
theorem DenL.drop {K : PySem.W.Frag} {F : Hp} : ∀ {xs : List V} {ds : List D} (n : Nat), DenL K F xs ds → DenL K F (xs.drop n) (ds.drop n)
  | _, _, 0, h => h
  | _, _, _ + 1, .nil => .nil
  | _, _, n + 1, .cons _ q => DenL.drop n q
theorem DenL.take {K : PySem.W.Frag} {F : Hp} : ∀ {xs : List V} {ds : List D} (n : Nat), DenL K F xs ds → DenL K F (xs.take n) (ds.take n)
  | _, _, 0, _ => .nil
  | _, _, _ + 1, .nil => .nil
  | _, _, n + 1, .cons h q => .cons h (DenL.take n q)
theorem DenL.cut {K : PySem.W.Frag} {F : Hp} {xs : List V} {ds : List D} {lo hi : Option Int} (h : DenL K F xs ds) : DenL K F (cutV xs lo hi) (cutD ds lo hi) := by
  unfold cutV cutD
  rw [h.length]
  exact (h.drop _).take _
/-- a bound of a slice -/
def EvO (X : Cx) (e : Option Expr) (ρ : Rho) (o : Option Int) : Prop := ∃ to : TO, PO X e to ∧ ∀ (B F0 : Hp) (st : Rho) (vst σ : St) (H : Hp) (Q : Option Int → Hp → Prop), vst.length = st.length → Rl X.K B F0 (st ++ ρ) (vst ++ σ) H → (∀ H', Rl X.K B F0 (st ++ ρ) (vst ++ σ) H' → Q o H') → to σ H Q
theorem evo_none : EvO X none ρ none := ⟨_, po_none, fun B F0 st vst σ H Q hl R k => k H R⟩
theorem evo_some {n : Int} (h : Ev X e ρ (.v (.int n)) ρ) : EvO X (some e) ρ (some n) := ⟨_, po_some (pe_u X e), fun B F0 st vst σ H Q hl R k => h B F0 st vst σ H _ hl R fun v H1 R1 => ⟨n, R1.headI, k H1 R1.drop⟩⟩
/-- xs[lo:hi] of a list: a new one -/
theorem ev_slL {lo hi : Option Expr} {l u : Option Int} (ha : Ev X a ρ (.v (.lst ds)) ρ1) (h1 : EvO X lo ρ1 l) (h2 : EvO X hi ρ1 u) : Ev X (.Subscript a (.Slice lo hi none p2) pos) ρ (.lst ((cutD ds l u).map T.v)) ρ1 := by
  obtain ⟨tl, pl, hl1⟩ := h1
  obtain ⟨tu, pu, hu1⟩ := h2
  exact ev_of (pe_slice sl_list (pe_u X a) pl pu) fun B F0 st vst σ H Q hl R k => ha B F0 st vst σ H _ hl R fun v H1 R1 =>
    hl1 B F0 (some (.v (.lst ds)) :: st) (some v :: vst) σ H1 _ (by simp [hl]) R1 fun H2 R2 => hu1 B F0 (some (.v (.lst ds)) :: st) (some v :: vst) σ H2 _ (by simp [hl]) R2 fun H3 R3 => by
      have R3' : Rl X.K B F0 (([D.lst ds].map fun d => some (T.v d)) ++ (st ++ ρ1)) ([v].map some ++ (vst ++ σ)) H3 := R3
      obtain ⟨F, eF, hd, _, mk, _⟩ := R3'.elimN rfl
      cases hd with
      | cons hd _ =>
        cases hd with
        | lst hq q => exact ⟨_, _, rfl, eF.sqL hq, fun p hp => k _ _ (mk _ _ p q.cut hp)⟩
/-- t[lo:hi] of a tuple -/
theorem ev_slT {lo hi : Option Expr} {l u : Option Int} (ha : Ev X a ρ (.v (.tup ds)) ρ1) (h1 : EvO X lo ρ1 l) (h2 : EvO X hi ρ1 u) : Ev X (.Subscript a (.Slice lo hi none p2) pos) ρ (.v (.tup (cutD ds l u))) ρ1 := by
  obtain ⟨tl, pl, hl1⟩ := h1
  obtain ⟨tu, pu, hu1⟩ := h2
  exact ev_of (pe_slice sl_tupA (pe_u X a) pl pu) fun B F0 st vst σ H Q hl R k => ha B F0 st vst σ H _ hl R fun v H1 R1 =>
    hl1 B F0 (some (.v (.tup ds)) :: st) (some v :: vst) σ H1 _ (by simp [hl]) R1 fun H2 R2 => hu1 B F0 (some (.v (.tup ds)) :: st) (some v :: vst) σ H2 _ (by simp [hl]) R2 fun H3 R3 => by
      have R3' : Rl X.K B F0 (([D.tup ds].map fun d => some (T.v d)) ++ (st ++ ρ1)) ([v].map some ++ (vst ++ σ)) H3 := R3
      obtain ⟨F, eF, hd, mk1, _, mk⟩ := R3'.elimN rfl
      cases hd with
      | cons hd _ =>
        cases hd with
        | @tup a xs _ hq q =>
          refine ⟨_, _, rfl, SqT.of (eF.t hq), fun hh => ?_, fun _ p hp => k _ _ (mk _ _ p q.cut hp)⟩
          have e : cutD ds l u = ds := by
            unfold cutD
            rw [← q.length, hh.1, hh.2, q.length]
            simp
          rw [e] at k
          exact k _ _ (mk1 _ _ (.tup hq q))
/-- s[lo:hi] of a text -/
theorem ev_slS {lo hi : Option Expr} {l u : Option Int} {w : Str} (ha : Ev X a ρ (.v (.str w)) ρ1) (h1 : EvO X lo ρ1 l) (h2 : EvO X hi ρ1 u) (hz : w.length ≤ 100000) : Ev X (.Subscript a (.Slice lo hi none p2) pos) ρ (.v (.str (Txt.slice w l u))) ρ1 := by
  obtain ⟨tl, pl, hl1⟩ := h1
  obtain ⟨tu, pu, hu1⟩ := h2
  exact ev_of (pe_slice C8.sl_txt (pe_u X a) pl pu) fun B F0 st vst σ H Q hl R k => ha B F0 st vst σ H _ hl R fun v H1 R1 =>
    hl1 B F0 (some (.v (.str w)) :: st) (some v :: vst) σ H1 _ (by simp [hl]) R1 fun H2 R2 => hu1 B F0 (some (.v (.str w)) :: st) (some v :: vst) σ H2 _ (by simp [hl]) R2 fun H3 R3 =>
      ⟨w, R3.headS, by rw [sizeLine_eq]; omega, k _ H3 (R3.drop.pushS fun _ => .str _)⟩
/-! ### fields of an instance -/
def getF (fs : List (Str × D)) (f : Str) : Option D := fs.lookup f
theorem lookup_den {K : PySem.W.Frag} {F : Hp} {f : Str} : ∀ {fs : List (Str × V)} {ds : List (Str × D)} {d : D}, fs.map (·.1) = ds.map (·.1) → DenL K F (fs.map (·.2)) (ds.map (·.2)) → ds.lookup f = some d → ∃ v, fs.lookup f = some v ∧ Den K F v d
  | [], [], _, _, _, h => by simp [List.lookup] at h
  | [], _ :: _, _, e, _, _ => by simp at e
  | _ :: _, [], _, e, _, _ => by simp at e
  | (k, v) :: fs, (k', d') :: ds, d, e, q, h => by
    simp only [List.map_cons, List.cons.injEq] at e
    obtain ⟨rfl, e⟩ := e
    cases q with
    | cons q1 q2 =>
      simp only [List.lookup] at h ⊢
      cases hk : (f == k) with
      | true => rw [hk] at h; simp at h; subst h; exact ⟨v, rfl, q1⟩
      | false => rw [hk] at h; exact lookup_den e q2 h
theorem ev_fld {f : Str} {C : Addr} {fs : List (Str × D)} (ha : Ev X e ρ (.v (.obj C fs)) ρ1) (hc : Cls X.K C) (hn : NoAttr X.K C f) (hf : fs.lookup f = some d) (hb : attributeBase e f X.env (eval e X.env) = eval e X.env := by rfl) : Ev X (.Attribute e f pos) ρ (.v d) ρ1 :=
  ev_of (pe_fld (pe_u X e) hb) fun B F0 st vst σ H Q hl R k => ha B F0 st vst σ H _ hl R fun v H1 R1 => by
    obtain ⟨F, eF, hd, mk⟩ := R1.elim
    cases hd with
    | @obj a _ dx gs _ h1 h2 h3 =>
      obtain ⟨w, hw, dw⟩ := lookup_den h2 h3 hf
      exact ⟨a, C, dx, gs, w, rfl, eF.i h1, hc, hn, hw, k w H1 (mk w d dw)⟩
end

/-! ### calls of built-in functions -/
section
variable {X : Cx} {e a b c : Expr} {es rest : List Expr} {ρ ρ1 ρ2 ρ3 : Rho} {d x y z : D} {r t : T} {ts : List T} {ds us : List D} {pos p p2 : Pos} {i : Nat} {bo bo' : Bool} {id : String} {f : Str} {q : List V → Hp → VK → Prop}
/-- f(..), f a built-in function: a plain answer -/
theorem ev_callB (hc : CallR X (.builtin id) q) (hm : X.mg f = none) (hv : bootBuiltins f = some (.builtin id)) (ha : EvA X (e :: es) ρ ts ρ1) (hr : ∀ (H : Hp) (vs : List V) (Q : VK), DenL X.K H vs (ts.map T.d) → (∀ w, (∀ F, Den X.K F w z) → Q w H) → q vs H Q) (hg : Gl X f := by rfl)
    (hn : f ≠ "__name__" := by decide) (hdb : (f == ("__debug__" : Str)) = false := by decide)
    (he : starEach (e :: es) X.env = (false, eval e X.env) :: starEach es X.env := by rfl) (hpl : (backTo pos (starEach es X.env)).any (·.1) = false := by rfl) : Ev X (.Call (.Name f p) (e :: es) [] pos) ρ (.v z) ρ1 :=
  ev_of (pe_callB hc hg hm hv (pa_u X (e :: es)) hn hdb he hpl) fun B F0 st vst σ H Q hl R k => ha.frz B F0 st vst σ H _ hl R fun vs H1 hl1 R1 => by
    have R2 := rl_v (ts.map T.d) (by simpa [List.map_map, Function.comp_def] using R1)
    have hl2 : vs.length = (ts.map T.d).length := by simpa using hl1
    refine hr H1 vs Q (R2.denN hl2) fun w hw => k w H1 ?_
    exact (Rl.dropN (ρ1 := (ts.map T.d).map fun d => some (T.v d)) (σ1 := vs.map some) (by simp [hl2]) R2).pushS hw
theorem ev_callTy {T' : String} (hc : CallR X (.type T') q) (hm : X.mg f = none) (hv : bootBuiltins f = some (.type T')) (ha : EvA X (e :: es) ρ ts ρ1) (hr : ∀ (H : Hp) (vs : List V) (Q : VK), DenL X.K H vs (ts.map T.d) → (∀ w, (∀ F, Den X.K F w z) → Q w H) → q vs H Q) (hg : Gl X f := by rfl)
    (hn : f ≠ "__name__" := by decide) (hdb : (f == ("__debug__" : Str)) = false := by decide)
    (he : starEach (e :: es) X.env = (false, eval e X.env) :: starEach es X.env := by rfl) (hpl : (backTo pos (starEach es X.env)).any (·.1) = false := by rfl) : Ev X (.Call (.Name f p) (e :: es) [] pos) ρ (.v z) ρ1 :=
  ev_of (pe_callTy hc hg hm hv (pa_u X (e :: es)) hn hdb he hpl) fun B F0 st vst σ H Q hl R k => ha.frz B F0 st vst σ H _ hl R fun vs H1 hl1 R1 => by
    have R2 := rl_v (ts.map T.d) (by simpa [List.map_map, Function.comp_def] using R1)
    have hl2 : vs.length = (ts.map T.d).length := by simpa using hl1
    refine hr H1 vs Q (R2.denN hl2) fun w hw => k w H1 ?_
    exact (Rl.dropN (ρ1 := (ts.map T.d).map fun d => some (T.v d)) (σ1 := vs.map some) (by simp [hl2]) R2).pushS hw
/-- .. a new list of what is known -/
theorem ev_callBL (hc : CallR X (.builtin id) q) (hm : X.mg f = none) (hv : bootBuiltins f = some (.builtin id)) (ha : EvA X (e :: es) ρ ts ρ1)
    (hr : ∀ (F H : Hp) (vs : List V) (Q : VK), Sub F H → DenL X.K F vs (ts.map T.d) → (∀ ws p, DenL X.K F ws us → H p = none → Q (.ref p) (upd H p (.lst ws))) → q vs H Q) (hg : Gl X f := by rfl)
    (hn : f ≠ "__name__" := by decide) (hdb : (f == ("__debug__" : Str)) = false := by decide)
    (he : starEach (e :: es) X.env = (false, eval e X.env) :: starEach es X.env := by rfl) (hpl : (backTo pos (starEach es X.env)).any (·.1) = false := by rfl) : Ev X (.Call (.Name f p) (e :: es) [] pos) ρ (.lst (us.map T.v)) ρ1 :=
  ev_of (pe_callB hc hg hm hv (pa_u X (e :: es)) hn hdb he hpl) fun B F0 st vst σ H Q hl R k => ha.frz B F0 st vst σ H _ hl R fun vs H1 hl1 R1 => by
    have R2 := rl_v (ts.map T.d) (by simpa [List.map_map, Function.comp_def] using R1)
    have hl2 : vs.length = (ts.map T.d).length := by simpa using hl1
    obtain ⟨F, eF, hd, _, mk, _⟩ := R2.elimN hl2
    exact hr F H1 vs Q eF hd fun ws p hw hp => k _ _ (mk ws us p hw hp)
theorem ev_callTyL {T' : String} (hc : CallR X (.type T') q) (hm : X.mg f = none) (hv : bootBuiltins f = some (.type T')) (ha : EvA X (e :: es) ρ ts ρ1)
    (hr : ∀ (F H : Hp) (vs : List V) (Q : VK), Sub F H → DenL X.K F vs (ts.map T.d) → (∀ ws p, DenL X.K F ws us → H p = none → Q (.ref p) (upd H p (.lst ws))) → q vs H Q) (hg : Gl X f := by rfl)
    (hn : f ≠ "__name__" := by decide) (hdb : (f == ("__debug__" : Str)) = false := by decide)
    (he : starEach (e :: es) X.env = (false, eval e X.env) :: starEach es X.env := by rfl) (hpl : (backTo pos (starEach es X.env)).any (·.1) = false := by rfl) : Ev X (.Call (.Name f p) (e :: es) [] pos) ρ (.lst (us.map T.v)) ρ1 :=
  ev_of (pe_callTy hc hg hm hv (pa_u X (e :: es)) hn hdb he hpl) fun B F0 st vst σ H Q hl R k => ha.frz B F0 st vst σ H _ hl R fun vs H1 hl1 R1 => by
    have R2 := rl_v (ts.map T.d) (by simpa [List.map_map, Function.comp_def] using R1)
    have hl2 : vs.length = (ts.map T.d).length := by simpa using hl1
    obtain ⟨F, eF, hd, _, mk, _⟩ := R2.elimN hl2
    exact hr F H1 vs Q eF hd fun ws p hw hp => k _ _ (mk ws us p hw hp)
theorem denl1 {K : PySem.W.Frag} {H : Hp} {vs : List V} {d : D} (h : DenL K H vs [d]) : ∃ v, vs = [v] ∧ Den K H v d := by
  cases h with
  | cons h1 h2 => cases h2; exact ⟨_, rfl, h1⟩
theorem denl2 {K : PySem.W.Frag} {H : Hp} {vs : List V} {d d' : D} (h : DenL K H vs [d, d']) : ∃ v v', vs = [v, v'] ∧ Den K H v d ∧ Den K H v' d' := by
  cases h with
  | cons h1 h2 =>
    obtain ⟨v', rfl, h3⟩ := denl1 h2
    exact ⟨_, _, rfl, h1, h3⟩
theorem den_ints {K : PySem.W.Frag} {H : Hp} : ∀ {ns : List Int} {vs : List V}, DenL K H vs (ns.map D.int) → vs = ns.map V.int
  | [], _, h => by cases h; rfl
  | n :: ns, _, h => by
    cases h with
    | cons h1 h2 => cases h1; rw [den_ints h2]; rfl
theorem ints_den {K : PySem.W.Frag} {H : Hp} : ∀ (ns : List Int), DenL K H (ns.map V.int) (ns.map D.int)
  | [] => .nil
  | n :: ns => .cons (.int n) (ints_den ns)
theorem den_strs {K : PySem.W.Frag} {H : Hp} : ∀ {ns : List Str} {vs : List V}, DenL K H vs (ns.map D.str) → vs = ns.map V.str
  | [], _, h => by cases h; rfl
  | n :: ns, _, h => by
    cases h with
    | cons h1 h2 => cases h1; rw [den_strs h2]; rfl
theorem strs_den {K : PySem.W.Frag} {H : Hp} : ∀ (ns : List Str), DenL K H (ns.map V.str) (ns.map D.str)
  | [] => .nil
  | n :: ns => .cons (.str n) (strs_den ns)
theorem den_bls {K : PySem.W.Frag} {H : Hp} : ∀ {ns : List Bool} {vs : List V}, DenL K H vs (ns.map D.bl) → vs = ns.map V.bl
  | [], _, h => by cases h; rfl
  | n :: ns, _, h => by
    cases h with
    | cons h1 h2 => cases h1; rw [den_bls h2]; rfl
def D.len : D → Option Nat
  | .str x => some x.length | .tup xs => some xs.length | .lst xs => some xs.length | _ => none
theorem ev_len {n : Nat} (ha : EvA X [e] ρ [r] ρ1) (hn : r.d.len = some n) (hz : n ≤ 1000000) (hm : X.mg "len" = none) (hg : Gl X "len" := by rfl) (he : starEach [e] X.env = (false, eval e X.env) :: starEach [] X.env := by rfl) : Ev X (.Call (.Name "len" p) [e] [] pos) ρ (.v (.int n)) ρ1 :=
  ev_callB call_len hm PySem.boot_len ha (fun H vs Q h k => by
    obtain ⟨v, rfl, hd⟩ := denl1 h
    refine ⟨v, n, rfl, ?_, k _ fun _ => .int _⟩
    generalize r.d = dd at hd hn
    cases hd with
    | str x => simp only [D.len, Option.some.injEq] at hn; exact ⟨by rw [sizeLine_eq]; omega, hn.symm⟩
    | tup hq q => simp only [D.len, Option.some.injEq] at hn; exact .inr ⟨_, SqT.of hq, by rw [q.length]; exact hn.symm⟩
    | lst hq q => simp only [D.len, Option.some.injEq] at hn; exact .inl ⟨_, hq, by rw [q.length]; exact hn.symm⟩
    | _ => simp [D.len] at hn) hg (he := he)
theorem ev_abs {n : Int} (ha : EvA X [e] ρ [.v (.int n)] ρ1) (hm : X.mg "abs" = none) (hg : Gl X "abs" := by rfl) (he : starEach [e] X.env = (false, eval e X.env) :: starEach [] X.env := by rfl) : Ev X (.Call (.Name "abs" p) [e] [] pos) ρ (.v (.int (if n < 0 then -n else n))) ρ1 :=
  ev_callB call_abs hm PyProof.Rows.boot_abs ha (fun H vs Q h k => by
    obtain ⟨v, rfl, hd⟩ := denl1 h
    rw [T.d_v] at hd
    cases hd
    exact ⟨n, rfl, k _ fun _ => .int _⟩) hg (he := he)
theorem ev_intI {n : Int} (ha : EvA X [e] ρ [.v (.int n)] ρ1) (hm : X.mg "int" = none) (hg : Gl X "int" := by rfl) (he : starEach [e] X.env = (false, eval e X.env) :: starEach [] X.env := by rfl) : Ev X (.Call (.Name "int" p) [e] [] pos) ρ (.v (.int n)) ρ1 :=
  ev_callTy call_int1 hm PyProof.Rows.boot_int ha (fun H vs Q h k => by
    obtain ⟨v, rfl, hd⟩ := denl1 h
    rw [T.d_v] at hd
    cases hd
    exact .inl ⟨n, rfl, k _ fun _ => .int _⟩) hg (he := he)
theorem ev_intB {n : Bool} (ha : EvA X [e] ρ [.v (.bl n)] ρ1) (hm : X.mg "int" = none) (hg : Gl X "int" := by rfl) (he : starEach [e] X.env = (false, eval e X.env) :: starEach [] X.env := by rfl) : Ev X (.Call (.Name "int" p) [e] [] pos) ρ (.v (.int (if n then 1 else 0))) ρ1 :=
  ev_callTy call_int1 hm PyProof.Rows.boot_int ha (fun H vs Q h k => by
    obtain ⟨v, rfl, hd⟩ := denl1 h
    rw [T.d_v] at hd
    cases hd
    exact .inr ⟨n, rfl, k _ fun _ => .int _⟩) hg (he := he)
theorem ev_max2 {n m : Int} (ha : EvA X [a, b] ρ [.v (.int n), .v (.int m)] ρ1) (hc : X.calm = true) (hm : X.mg "max" = none) (hg : Gl X "max" := by rfl) (he : starEach [a, b] X.env = (false, eval a X.env) :: starEach [b] X.env := by rfl) (hpl : (backTo pos (starEach [b] X.env)).any (·.1) = false := by rfl) : Ev X (.Call (.Name "max" p) [a, b] [] pos) ρ (.v (.int (max n m))) ρ1 :=
  ev_callB (call_max2 hc) hm PyProof.Rows.boot_max ha (fun H vs Q h k => by
    obtain ⟨v, v', rfl, hd, hd'⟩ := denl2 h
    rw [T.d_v] at hd hd'
    cases hd; cases hd'
    have e : (if m > n then m else n) = max n m := by simp only [Int.max_def]; split <;> split <;> omega
    refine ⟨n, m, rfl, ?_⟩
    rw [e]
    exact k _ fun _ => .int _) hg (he := he) (hpl := hpl)
theorem ev_min2 {n m : Int} (ha : EvA X [a, b] ρ [.v (.int n), .v (.int m)] ρ1) (hc : X.calm = true) (hm : X.mg "min" = none) (hg : Gl X "min" := by rfl) (he : starEach [a, b] X.env = (false, eval a X.env) :: starEach [b] X.env := by rfl) (hpl : (backTo pos (starEach [b] X.env)).any (·.1) = false := by rfl) : Ev X (.Call (.Name "min" p) [a, b] [] pos) ρ (.v (.int (min n m))) ρ1 :=
  ev_callB (call_min2 hc) hm PyProof.Rows.boot_min ha (fun H vs Q h k => by
    obtain ⟨v, v', rfl, hd, hd'⟩ := denl2 h
    rw [T.d_v] at hd hd'
    cases hd; cases hd'
    have e : (if m < n then m else n) = min n m := by simp only [Int.min_def]; split <;> split <;> omega
    refine ⟨n, m, rfl, ?_⟩
    rw [e]
    exact k _ fun _ => .int _) hg (he := he) (hpl := hpl)
theorem ev_sum {ns : List Int} (ha : EvA X [e] ρ [r] ρ1) (hr : r.d = .lst (ns.map D.int)) (hc : X.calm = true) (hm : X.mg "sum" = none) (hg : Gl X "sum" := by rfl) (he : starEach [e] X.env = (false, eval e X.env) :: starEach [] X.env := by rfl) : Ev X (.Call (.Name "sum" p) [e] [] pos) ρ (.v (.int ns.sum)) ρ1 :=
  ev_callB (cr_sum hc) hm PyProof.Rows.boot_sum ha (fun H vs Q h k => by
    obtain ⟨v, rfl, hd⟩ := denl1 h
    rw [hr] at hd
    cases hd with
    | lst hq q => exact ⟨_, ns, rfl, by rw [← den_ints q]; exact hq, k _ fun _ => .int _⟩) hg (he := he)
theorem ev_max {ns : List Int} {m : Int} (ha : EvA X [e] ρ [r] ρ1) (hr : r.d = .lst (ns.map D.int)) (h1 : m ∈ ns) (h2 : ∀ y ∈ ns, y ≤ m) (hc : X.calm = true) (hm : X.mg "max" = none) (hg : Gl X "max" := by rfl) (he : starEach [e] X.env = (false, eval e X.env) :: starEach [] X.env := by rfl) : Ev X (.Call (.Name "max" p) [e] [] pos) ρ (.v (.int m)) ρ1 :=
  ev_callB (cr_max hc) hm PyProof.Rows.boot_max ha (fun H vs Q h k => by
    obtain ⟨v, rfl, hd⟩ := denl1 h
    rw [hr] at hd
    cases hd with
    | lst hq q => exact ⟨_, ns, rfl, by rw [← den_ints q]; exact hq, List.length_pos_of_mem h1, fun m' g1 g2 => by
        have : m' = m := Int.le_antisymm (h2 m' g1) (g2 m h1)
        subst this
        exact k _ fun _ => .int _⟩) hg (he := he)
theorem ev_min {ns : List Int} {m : Int} (ha : EvA X [e] ρ [r] ρ1) (hr : r.d = .lst (ns.map D.int)) (h1 : m ∈ ns) (h2 : ∀ y ∈ ns, m ≤ y) (hc : X.calm = true) (hm : X.mg "min" = none) (hg : Gl X "min" := by rfl) (he : starEach [e] X.env = (false, eval e X.env) :: starEach [] X.env := by rfl) : Ev X (.Call (.Name "min" p) [e] [] pos) ρ (.v (.int m)) ρ1 :=
  ev_callB (cr_min hc) hm PyProof.Rows.boot_min ha (fun H vs Q h k => by
    obtain ⟨v, rfl, hd⟩ := denl1 h
    rw [hr] at hd
    cases hd with
    | lst hq q => exact ⟨_, ns, rfl, by rw [← den_ints q]; exact hq, List.length_pos_of_mem h1, fun m' g1 g2 => by
        have : m' = m := Int.le_antisymm (g2 m h1) (h2 m' g1)
        subst this
        exact k _ fun _ => .int _⟩) hg (he := he)
theorem ev_all {ns : List Bool} (ha : EvA X [e] ρ [r] ρ1) (hr : r.d = .lst (ns.map D.bl)) (hc : X.calm = true) (hm : X.mg "all" = none) (hg : Gl X "all" := by rfl) (he : starEach [e] X.env = (false, eval e X.env) :: starEach [] X.env := by rfl) : Ev X (.Call (.Name "all" p) [e] [] pos) ρ (.v (.bl (ns.all fun b => b))) ρ1 :=
  ev_callB (cr_all hc) hm PyProof.Rows.boot_all ha (fun H vs Q h k => by
    obtain ⟨v, rfl, hd⟩ := denl1 h
    rw [hr] at hd
    cases hd with
    | lst hq q => exact ⟨_, ns, rfl, by rw [← den_bls q]; exact hq, k _ fun _ => .bl _⟩) hg (he := he)
theorem ev_any {ns : List Bool} (ha : EvA X [e] ρ [r] ρ1) (hr : r.d = .lst (ns.map D.bl)) (hc : X.calm = true) (hm : X.mg "any" = none) (hg : Gl X "any" := by rfl) (he : starEach [e] X.env = (false, eval e X.env) :: starEach [] X.env := by rfl) : Ev X (.Call (.Name "any" p) [e] [] pos) ρ (.v (.bl (ns.any fun b => b))) ρ1 :=
  ev_callB (cr_any hc) hm PyProof.Rows.boot_any ha (fun H vs Q h k => by
    obtain ⟨v, rfl, hd⟩ := denl1 h
    rw [hr] at hd
    cases hd with
    | lst hq q => exact ⟨_, ns, rfl, by rw [← den_bls q]; exact hq, k _ fun _ => .bl _⟩) hg (he := he)
/-- sorted of a list of ints -/
theorem ev_sortedI {ns ms : List Int} (ha : EvA X [e] ρ [r] ρ1) (hr : r.d = .lst (ns.map D.int)) (h1 : ms.Perm ns) (h2 : ms.Pairwise (· ≤ ·)) (hc : X.calm = true) (hm : X.mg "sorted" = none) (hg : Gl X "sorted" := by rfl) (he : starEach [e] X.env = (false, eval e X.env) :: starEach [] X.env := by rfl) : Ev X (.Call (.Name "sorted" p) [e] [] pos) ρ (.lst (ms.map fun n => .v (.int n))) ρ1 := by
  have := ev_callBL (us := ms.map D.int) (p := p) (pos := pos) cr_sortedI hm PyProof.Rows.boot_sorted ha (fun F H vs Q eF h k => by
    obtain ⟨v, rfl, hd⟩ := denl1 h
    rw [hr] at hd
    cases hd with
    | lst hq q => exact ⟨_, ns, rfl, by rw [← den_ints q]; exact eF.sqL hq, fun ns' p g1 g2 hp => by
        have : ns' = ms := List.Perm.eq_of_pairwise (le := fun a b : Int => a ≤ b) (fun a b _ _ h1 h2 => Int.le_antisymm h1 h2) g2 h2 (g1.trans h1.symm)
        subst this
        exact k _ p (ints_den _) hp⟩) hg (he := he)
  simpa [List.map_map, Function.comp_def] using this
/-- list(xs) -/
theorem ev_listL {xs : List D} (ha : EvA X [e] ρ [r] ρ1) (hr : r.d = .lst xs ∨ r.d = .tup xs) (hm : X.mg "list" = none) (hg : Gl X "list" := by rfl) (he : starEach [e] X.env = (false, eval e X.env) :: starEach [] X.env := by rfl) : Ev X (.Call (.Name "list" p) [e] [] pos) ρ (.lst (xs.map T.v)) ρ1 :=
  ev_callTyL call_list_of hm PyProof.Rows.boot_list ha (fun F H vs Q eF h k => by
    obtain ⟨v, rfl, hd⟩ := denl1 h
    rcases hr with hr | hr
    · rw [hr] at hd
      cases hd with
      | lst hq q => exact ⟨_, _, rfl, .inl (eF.sqL hq), fun p hp => k _ p q hp⟩
    · rw [hr] at hd
      cases hd with
      | tup hq q => exact ⟨_, _, rfl, .inr (SqT.of (eF.t hq)), fun p hp => k _ p q hp⟩) hg (he := he)
/-- tuple(xs) -/
theorem ev_tupleL {xs : List D} (ha : Ev X a ρ r ρ1) (hr : r.d = .lst xs ∨ r.d = .tup xs) (hm : X.mg "tuple" = none) (hg : Gl X "tuple" := by rfl) (he : starEach [a] X.env = (false, eval a X.env) :: starEach [] X.env := by rfl) : Ev X (.Call (.Name "tuple" p) [a] [] pos) ρ (.v (.tup xs)) ρ1 :=
  ev_of (pe_tupleOf hg hm (pe_u X a) he) fun B F0 st vst σ H Q hl R k => (ev_frz ha) B F0 st vst σ H _ hl R fun v H1 R1 => by
    have R1' : Rl X.K B F0 (([r.d].map fun d => some (T.v d)) ++ (st ++ ρ1)) ([v].map some ++ (vst ++ σ)) H1 := R1
    obtain ⟨F, eF, hd, mk1, _, mk⟩ := R1'.elimN rfl
    obtain ⟨v', e, hd⟩ := denl1 hd
    cases e
    rcases hr with hr | hr
    · rw [hr] at hd
      cases hd with
      | lst hq q => exact .inl ⟨_, _, rfl, eF.sqL hq, fun p hp => k _ _ (mk _ _ p q hp)⟩
    · rw [hr] at hd
      cases hd with
      | tup hq q => exact .inr ⟨_, _, rfl, SqT.of (eF.t hq), k _ _ (mk1 _ _ (.tup hq q))⟩
end
end Vl
end
section
set_option maxRecDepth 100000
namespace Vl
open PySem L2

/-- an exception: its class, its fields -/
structure Xn where
  C : Addr
  fs : List (Str × D)
def XDen (K : PySem.W.Frag) (F : Hp) (x : Xn) (cls : Value) (d : Option Addr) : Prop :=
  cls = .ref x.C ∧ ((x.fs = [] ∧ d = none) ∨ ∃ dd vs, d = some dd ∧ F dd = some (.xd vs) ∧ vs.map (·.1) = x.fs.map (·.1) ∧ DenL K F (vs.map (·.2)) (x.fs.map (·.2)))

section
variable {K : PySem.W.Frag} {B F0 F F' H H' : Hp} {ρ ρ' st : Rho} {σ σ' vst : St} {v : V} {d : D} {t r : T}
theorem RlF.rl (h : RlF K B F0 F ρ σ H) : Rl K B F0 ρ σ H := ⟨F, h⟩
theorem RlF.self (h : RlF K B F0 F ρ σ H) : RlF K B F F ρ σ H := by
  obtain ⟨A, e0, e1, e2, dm, o, nd, fr⟩ := h
  exact ⟨A, Same.refl _, e1, e2, fun a u z => .inl ⟨u, z⟩, o, nd, fr⟩
theorem RlF.re (h : RlF K B F0 F ρ σ H) (h' : RlF K B F F' ρ' σ' H') : RlF K B F0 F' ρ' σ' H' := by
  obtain ⟨A, e0, e1, e2, dm, o, nd, fr⟩ := h
  obtain ⟨A', e0', e1', e2', dm', o', nd', fr'⟩ := h'
  refine ⟨A', e0.trans e0', e1', e2', fun a u z => ?_, o', nd', fr'⟩
  rcases dm' a u z with ⟨u', z'⟩ | z'
  · exact dm a u' z'
  · exact .inr z'
theorem RlF.reL (h : RlF K B F0 F ρ σ H) (h' : Rl K B F ρ' σ' H') : Rl K B F0 ρ' σ' H' := by
  obtain ⟨F', h'⟩ := h'
  exact ⟨F', h.re h'⟩
theorem Rl.pushF (h : Rl K B F0 ρ σ H) (hd : Den K F0 v d) : Rl K B F0 (some (.v d) :: ρ) (some v :: σ) H := by
  obtain ⟨F, A, e0, e1, e2, dm, o, nd, fr⟩ := h
  exact ⟨F, A, e0, e1, e2, dm, OwnS.cons (A := []) (.v (hd.mono e0)) o, nd, fr⟩
theorem Rl.same (h : Rl K B F0 ρ σ H) : Sub F0 H := by
  obtain ⟨F, A, e0, e1, _⟩ := h
  exact e1.tr e0
/-- at the head stands plain data; F: what is known -/
theorem Rl.elimF (h : Rl K B F0 (some (.v d) :: ρ) (some v :: σ) H) : ∃ F, RlF K B F0 F ρ σ H ∧ Den K F v d := by
  obtain ⟨F, A, e0, e1, e2, dm, o, nd, fr⟩ := h
  cases o with
  | cons o1 o2 =>
    cases o1 with
    | v hd => exact ⟨F, ⟨_, e0, e1, e2, dm, o2, nd, fr⟩, hd⟩
theorem bas_tr (e : Same F F') (h : Bas B F H) (h' : Bas H F' H') : Bas B F' H' := fun a u z => by
  rcases h a u z with q | ⟨q, o, kvs, e2, q2⟩
  · exact h' a u q
  · rcases h' a _ q2 with w | ⟨_, o', kvs', e3, _⟩
    · exact .inr ⟨e a u q, o, kvs, e2, w⟩
    · cases e3
/-- a call: what the callee sees, what is left behind it -/
theorem Rl.callee {ds : List D} {vs : List V} (h : Rl K B F0 ((ds.map fun d => some (.v d)) ++ ρ) (vs.map some ++ σ) H) (hl : vs.length = ds.length) :
    ∃ F, RlF K B F0 F ρ σ H ∧ Rl K H F ((ds.map T.v).map some) (vs.map some) H ∧
      (∀ ρ2 σ2 r v H', Rl K H F (some r :: ρ2) (some v :: σ2) H' → Rl K B F0 (some r :: ρ) (some v :: σ) H') ∧
      (∀ F' ρ2 σ2 H', RlF K H F F' ρ2 σ2 H' → RlF K B F0 F' ρ σ H') := by
  obtain ⟨F, A, e0, e1, e2, dm, o, nd, fr⟩ := h
  obtain ⟨A1, A2, rfl, o1, o2⟩ := o.split (by simpa using hl)
  obtain ⟨rfl, q⟩ := OwnS.allv o1
  have nd2 := (List.nodup_append.mp nd).2.1
  have fr2 : ∀ a ∈ A2, F a = none ∧ B a = none := fun a ha => fr a (by simpa using ha)
  have bn : ∀ {a : Addr}, H a = none → B a = none := fun {a} h => e2.free h
  have back : ∀ F' ρ2 σ2 H', RlF K H F F' ρ2 σ2 H' → Same F F' ∧ Sub F' H' ∧ Bas B F' H' ∧ (∀ a ∈ A2, ∀ u, H a = some u → H' a = some u) ∧ (∀ a o, F' a = some o → (∃ u, F0 a = some u) ∨ B a = none) ∧ ∀ a ∈ A2, F' a = none ∧ B a = none := fun F' ρ2 σ2 H' h => by
    obtain ⟨A', e0', e1', e2', dm', o', nd', fr'⟩ := h
    have fn : ∀ a ∈ A2, F' a = none := fun a ha => none_of_ne fun u z => by
      obtain ⟨w, hw⟩ := o2.there a ha
      rcases dm' a u z with ⟨u', z'⟩ | z'
      · rw [(fr2 a ha).1] at z'; cases z'
      · rw [hw] at z'; cases z'
    refine ⟨e0', e1', bas_tr e0' e2 e2', fun a ha u z => ?_, fun a u z => ?_, fun a ha => ⟨fn a ha, (fr2 a ha).2⟩⟩
    · rcases e2' a u z with q | ⟨q, _⟩
      · exact q
      · rw [fn a ha] at q; cases q
    · rcases dm' a u z with ⟨u', z'⟩ | z'
      · exact dm a u' z'
      · exact .inr (bn z')
  refine ⟨F, ⟨A2, e0, e1, e2, dm, o2, nd2, fr2⟩, ⟨F, [], Same.refl _, e1, fun _ _ z => .inl z, fun a u z => .inl ⟨u, z⟩, ?_, List.nodup_nil, fun a ha => by cases ha⟩, fun ρ2 σ2 r v H' h => ?_, fun F' ρ2 σ2 H' h => ?_⟩
  · have := OwnS.ofL (OwnL.ofDen (H := H) q)
    simpa using this
  · obtain ⟨F', h⟩ := h
    obtain ⟨b1, b2, b3, b3k, b4, b5⟩ := back F' _ _ _ h
    obtain ⟨A', e0', e1', e2', dm', o', nd', fr'⟩ := h
    cases o' with
    | @cons _ _ _ _ C1 C2 c1 c2 =>
      have o3 : OwnS K F' H' (some v :: σ) (some r :: ρ) (C1 ++ A2) := .cons c1 (o2.mono b1 b3k)
      refine ⟨F', C1 ++ A2, e0.trans b1, b2, b3, b4, o3, List.nodup_append.mpr ⟨(List.nodup_append.mp nd').1, nd2, fun a ha b hb e => ?_⟩, fun a ha => ?_⟩
      · subst e
        obtain ⟨w, hw⟩ := o2.there a hb
        have := (fr' a (List.mem_append_left _ ha)).2
        rw [hw] at this; cases this
      · rcases List.mem_append.mp ha with ha | ha
        · exact ⟨(fr' a (List.mem_append_left _ ha)).1, bn (fr' a (List.mem_append_left _ ha)).2⟩
        · exact b5 a ha
  · obtain ⟨b1, b2, b3, b3k, b4, b5⟩ := back F' _ _ _ h
    exact ⟨A2, e0.trans b1, b2, b3, b4, o2.mono b1 b3k, nd2, b5⟩
end

/-! ### what a def promises -/
/-- arguments; what may come back, with the arguments behind it; what may be raised -/
abbrev Pr := List T → (T → List T → Prop) → (Xn → Prop) → Prop
def spF (K : PySem.W.Frag) (R : Pr) : Sp := fun vs H Q E => ∃ (B F0 : Hp) (ts : List T) (Qt : T → List T → Prop) (Qx : Xn → Prop), vs.length = ts.length ∧ Rl K B F0 (ts.map some) (vs.map some) H ∧ R ts Qt Qx ∧
  (∀ r ts' v H', Qt r ts' → Rl K B F0 (some r :: ts'.map some) (some v :: vs.map some) H' → Q v H') ∧ (∀ x cls d F H', Qx x → RlF K B F0 F [] [] H' → XDen K F x cls d → E cls d H')
/-- the def called x keeps R -/
def Fn (P : Program) (w : World) (K : PySem.W.Frag) (mg : Str → Option Value) (base : Heap) (k : Nat) (x : Str) (R : Pr) : Prop :=
  ∃ (f : Addr) (fd : FuncData) (ps : List Str), FnOk P w K mg base (L2.CX P w) k f fd ps (spF K R) ∧ mg x = some (.ref f) ∧ PySem.W.keepIn K (.ref f) = true ∧ Binds K fd ps []

/-- what is known of a body -/
structure Gd (X : Cx) : Prop where
  own : PassesOwn (model X.prog X.w) X.A X.env X.xe
  calm : X.calm = true
  nd : X.N.Nodup
  hu : X.A.units + 64 < cLine

section
variable {X : Cx} {e a b c : Expr} {es rest : List Expr} {ρ ρ1 ρ2 ρ3 : Rho} {d x y z : D} {r t : T} {ts : List T} {ds : List D} {pos p p2 : Pos} {i k : Nat} {bo bo' : Bool} {f : Str} {R : Pr} {xn : Xn}
theorem passE0 : ∀ σ : St, PassesAt (L2.CX X.prog X.w) X σ ((fun _ => E0) σ) := fun _ _ _ _ _ _ _ h => by
  obtain ⟨_, _, _, _, _, _, _, _, _, _, _, _, z⟩ := h
  exact z.elim
/-- f(..), f a def: nothing is raised -/
theorem ev_call (Fd : Fn X.prog X.w X.K X.mg X.base k f R) (hr : Room k X.A) (ha : EvA X (e :: es) ρ ts ρ1) (hR : R (ts.map fun t => .v t.d) (fun r' _ => r' = r) (fun _ => False)) (hg : Gl X f := by rfl) (hdb : (f == ("__debug__" : Str)) = false := by decide)
    (he : starEach (e :: es) X.env = (false, eval e X.env) :: starEach es X.env := by rfl) (hpl : (backTo pos (starEach es X.env)).any (·.1) = false := by rfl) : Ev X (.Call (.Name f p) (e :: es) [] pos) ρ r ρ1 := by
  obtain ⟨fa, fd, ps, F, hm, hk, hb⟩ := Fd
  refine ev_of (pe_callS F hr hg hm hk hb passE0 (pa_u X (e :: es)) hdb he hpl) fun B F0 st vst σ H Q hl R0 kk => ha.frz B F0 st vst σ H _ hl R0 fun vs H1 hl1 R1 => ?_
  have R2 := rl_v (ts.map T.d) (by simpa [List.map_map, Function.comp_def] using R1)
  have hl2 : vs.length = (ts.map T.d).length := by simpa using hl1
  obtain ⟨F', _, Rc, back, _⟩ := R2.callee hl2
  refine ⟨H1, F', ts.map fun t => .v t.d, _, _, hl1, by simpa [List.map_map, Function.comp_def] using Rc, hR, fun r' ts' v H' e h => ?_, fun _ _ _ _ _ h _ _ => h.elim⟩
  subst e
  exact kk v H' (back _ _ _ _ _ h)
/-- raising -/
def Er (X : Cx) (e : Expr) (ρ : Rho) (x : Xn) (ρ' : Rho) : Prop :=
  ∀ (B F0 : Hp) (st : Rho) (vst σ : St) (H : Hp) (Q : VK) (Wx : WX), Takes X Wx → vst.length = st.length → Rl X.K B F0 (st ++ ρ) (vst ++ σ) H →
    (∀ cls d F H', RlF X.K B F0 F (st ++ ρ') (vst ++ σ) H' → XDen X.K F x cls d → Wx cls d σ H') → tE X e σ H Q
theorem er_call (Fd : Fn X.prog X.w X.K X.mg X.base k f R) (hr : Room k X.A) (ha : EvA X (e :: es) ρ ts ρ1) (hR : R (ts.map fun t => .v t.d) (fun _ _ => False) (fun x' => x' = xn)) (hg : Gl X f := by rfl) (hdb : (f == ("__debug__" : Str)) = false := by decide)
    (he : starEach (e :: es) X.env = (false, eval e X.env) :: starEach es X.env := by rfl) (hpl : (backTo pos (starEach es X.env)).any (·.1) = false := by rfl) : Er X (.Call (.Name f p) (e :: es) [] pos) ρ xn ρ1 := by
  obtain ⟨fa, fd, ps, F, hm, hk, hb⟩ := Fd
  intro B F0 st vst σ H Q Wx tk hl R0 kk
  refine ⟨_, pe_callS F hr hg hm hk hb (E := WE Wx) (fun σ => passAt tk σ) (pa_u X (e :: es)) hdb he hpl, ha.frz B F0 st vst σ H _ hl R0 fun vs H1 hl1 R1 => ?_⟩
  have R2 := rl_v (ts.map T.d) (by simpa [List.map_map, Function.comp_def] using R1)
  have hl2 : vs.length = (ts.map T.d).length := by simpa using hl1
  obtain ⟨F', _, Rc, _, back⟩ := R2.callee hl2
  refine ⟨H1, F', ts.map fun t => .v t.d, _, _, hl1, by simpa [List.map_map, Function.comp_def] using Rc, hR, fun _ _ _ _ h _ => h.elim, fun x' cls d F2 H' e h hx => ?_⟩
  subst e
  exact kk cls d F2 H' (back F2 _ _ _ h) hx
end

/-! ### statements -/
structure Outs where
  nx : Rho → Prop
  rt : T → Rho → Prop
  bk : Rho → Prop := fun _ => False
  ct : Rho → Prop := fun _ => False
  ex : Xn → Rho → Prop := fun _ _ => False
def tSs (X : Cx) (sts : List Stmt) : TS := fun D σ H => ∃ t, PSs X sts t ∧ t D σ H
def tSt (X : Cx) (st : Stmt) : TS := fun D σ H => ∃ t, PS X st t ∧ t D σ H
theorem pss_u (X : Cx) (sts : List Stmt) : PSs X sts (tSs X sts) := ⟨fun pins s σ H D I h => let ⟨_, p, q⟩ := h; p.run pins s σ H D I q⟩
theorem ps_u (X : Cx) (st : Stmt) : PS X st (tSt X st) := ⟨fun pins s σ H D I h => let ⟨_, p, q⟩ := h; p.run pins s σ H D I q⟩
/-- the ends wished for follow from those told -/
structure Meets (K : PySem.W.Frag) (B F0 : Hp) (D : Outs) (De : Ends) (Wx : WX) : Prop where
  nx : ∀ ρ σ H, D.nx ρ → Rl K B F0 ρ σ H → De.nx σ H
  rt : ∀ r ρ v σ H, D.rt r ρ → Rl K B F0 (some r :: ρ) (some v :: σ) H → De.rt v H
  bk : ∀ ρ σ H, D.bk ρ → Rl K B F0 ρ σ H → De.bk σ H
  ct : ∀ ρ σ H, D.ct ρ → Rl K B F0 ρ σ H → De.ct σ H
  ex : ∀ x ρ cls d F σ H, D.ex x ρ → RlF K B F0 F ρ σ H → XDen K F x cls d → Wx cls d σ H
def S (X : Cx) (sts : List Stmt) (ρ : Rho) (D : Outs) : Prop := ∀ (B F0 : Hp) (σ : St) (H : Hp) (De : Ends) (Wx : WX), Takes X Wx → Rl X.K B F0 ρ σ H → Meets X.K B F0 D De Wx → tSs X sts De σ H
def S1 (X : Cx) (st : Stmt) (ρ : Rho) (D : Outs) : Prop := ∀ (B F0 : Hp) (σ : St) (H : Hp) (De : Ends) (Wx : WX), Takes X Wx → Rl X.K B F0 ρ σ H → Meets X.K B F0 D De Wx → tSt X st De σ H
section
variable {X : Cx} {e a b c : Expr} {es rest : List Expr} {ρ ρ1 ρ2 ρ3 : Rho} {d x y z : D} {r t : T} {ts : List T} {ds : List D} {pos p p2 : Pos} {i k : Nat} {bo bo' : Bool} {f : Str} {R : Pr} {xn : Xn} {Z : Outs} {st : Stmt} {sts body : List Stmt}
theorem s_nil (h : Z.nx ρ) : S X [] ρ Z := fun B F0 σ H De Wx tk R m => ⟨_, pss_nil, m.nx ρ σ H h R⟩
theorem s_cons (h : S1 X st ρ { Z with nx := fun ρ1 => S X sts ρ1 Z }) : S X (st :: sts) ρ Z := fun B F0 σ H De Wx tk R m =>
  ⟨_, pss_cons (ps_u X st) (pss_u X sts), h B F0 σ H _ Wx tk R ⟨fun ρ1 σ1 H1 h1 R1 => h1 B F0 σ1 H1 De Wx tk R1 m, m.rt, m.bk, m.ct, m.ex⟩⟩
theorem s1_of {t : TS} (ht : PS X st t) (h : ∀ (B F0 : Hp) (σ : St) (H : Hp) (De : Ends) (Wx : WX), Takes X Wx → Rl X.K B F0 ρ σ H → Meets X.K B F0 Z De Wx → t De σ H) : S1 X st ρ Z := fun B F0 σ H De Wx tk R m => ⟨t, ht, h B F0 σ H De Wx tk R m⟩
theorem S.imp {Z' : Outs} (h : S X sts ρ Z) (h1 : ∀ ρ, Z.nx ρ → Z'.nx ρ) (h2 : ∀ r ρ, Z.rt r ρ → Z'.rt r ρ) (h3 : ∀ ρ, Z.bk ρ → Z'.bk ρ) (h4 : ∀ ρ, Z.ct ρ → Z'.ct ρ) (h5 : ∀ x ρ, Z.ex x ρ → Z'.ex x ρ) : S X sts ρ Z' := fun B F0 σ H De Wx tk R m =>
  h B F0 σ H De Wx tk R ⟨fun ρ1 σ1 H1 q => m.nx ρ1 σ1 H1 (h1 _ q), fun r ρ1 v σ1 H1 q => m.rt r ρ1 v σ1 H1 (h2 _ _ q), fun ρ1 σ1 H1 q => m.bk ρ1 σ1 H1 (h3 _ q), fun ρ1 σ1 H1 q => m.ct ρ1 σ1 H1 (h4 _ q), fun x ρ1 cls d F σ1 H1 q => m.ex x ρ1 cls d F σ1 H1 (h5 _ _ q)⟩
theorem s_pass (h : Z.nx ρ) : S1 X (.Pass pos) ρ Z := s1_of ps_pass fun B F0 σ H De Wx tk R m => m.nx ρ σ H h R
theorem s_break (h : Z.bk ρ) : S1 X (.Break pos) ρ Z := s1_of ps_break fun B F0 σ H De Wx tk R m => m.bk ρ σ H h R
theorem s_continue (h : Z.ct ρ) : S1 X (.Continue pos) ρ Z := s1_of ps_continue fun B F0 σ H De Wx tk R m => m.ct ρ σ H h R
theorem s_ret (he : Ev X e ρ r ρ1) (h : Z.rt r ρ1) : S1 X (.Return (some e) pos) ρ Z := s1_of (ps_ret (pe_u X e)) fun B F0 σ H De Wx tk R m => he B F0 [] [] σ H _ rfl R fun v H1 R1 => m.rt r ρ1 v σ H1 h R1
theorem s_retN (h : Z.rt (.v .non) ρ) : S1 X (.Return none pos) ρ Z := s1_of ps_retN fun B F0 σ H De Wx tk R m => m.rt _ ρ _ σ H h (R.pushS fun _ => .non)
theorem s_ret_x (he : Er X e ρ xn ρ1) (h : Z.ex xn ρ1) : S1 X (.Return (some e) pos) ρ Z := s1_of (ps_ret (pe_u X e)) fun B F0 σ H De Wx tk R m => he B F0 [] [] σ H _ Wx tk rfl R fun cls d F H1 R1 hx => m.ex xn ρ1 cls d F σ H1 h R1 hx
theorem s_expr (he : Ev X e ρ r ρ1) (h : Z.nx ρ1) (hs : swapsWith e none pos.line X.env = pure false := by rfl) : S1 X (.Expr e pos) ρ Z := s1_of (ps_expr (pe_u X e) hs) fun B F0 σ H De Wx tk R m => he B F0 [] [] σ H _ rfl R fun v H1 R1 => m.nx ρ1 σ H1 h R1.drop
theorem s_expr_x (he : Er X e ρ xn ρ1) (h : Z.ex xn ρ1) (hs : swapsWith e none pos.line X.env = pure false := by rfl) : S1 X (.Expr e pos) ρ Z := s1_of (ps_expr (pe_u X e) hs) fun B F0 σ H De Wx tk R m => he B F0 [] [] σ H _ Wx tk rfl R fun cls d F H1 R1 hx => m.ex xn ρ1 cls d F σ H1 h R1 hx
theorem s_if (hc : Tv X c ρ bo ρ1) (h1 : bo = true → S X sts ρ1 Z) (h2 : bo = false → S X body ρ1 Z) : S1 X (.If c sts body pos) ρ Z := s1_of (ps_if (pt_u X c) (pss_u X sts) (pss_u X body)) fun B F0 σ H De Wx tk R m => hc B F0 [] [] σ H _ rfl R fun H1 R1 => by
  cases bo with
  | true => exact iteT (h1 rfl B F0 σ H1 De Wx tk R1 m)
  | false => exact iteF (h2 rfl B F0 σ H1 De Wx tk R1 m)
/-- x = e, x the name in slot i -/
theorem s_set {x : Str} {pos' : Pos} (i : Nat) (g : Gd X) (he : Ev X e ρ r ρ1) (h : Z.nx (ρ1.set i (some r))) (hi : X.N[i]? = some x := by rfl) (hx : Loc X.env.scope x := by first | exact Or.inl rfl | exact Or.inr rfl) (hs : swapsWith e (some (.Name x pos')) pos.line X.env = pure false := by rfl)
    (hf : X.fn x = true ∨ X.env.scope.names.lookup x = some .local := by first | exact .inl rfl | exact .inr rfl) : S1 X (.Assign [.Name x pos'] e pos) ρ Z :=
  s1_of (ps_set g.nd hi hx (pe_u X e) hs hf) fun B F0 σ H De Wx tk R m => he B F0 [] [] σ H _ rfl R fun v H1 R1 => m.nx _ _ H1 h R1.setS
theorem s_set_x {x : Str} {pos' : Pos} (i : Nat) (g : Gd X) (he : Er X e ρ xn ρ1) (h : Z.ex xn ρ1) (hi : X.N[i]? = some x := by rfl) (hx : Loc X.env.scope x := by first | exact Or.inl rfl | exact Or.inr rfl) (hs : swapsWith e (some (.Name x pos')) pos.line X.env = pure false := by rfl)
    (hf : X.fn x = true ∨ X.env.scope.names.lookup x = some .local := by first | exact .inl rfl | exact .inr rfl) : S1 X (.Assign [.Name x pos'] e pos) ρ Z :=
  s1_of (ps_set g.nd hi hx (pe_u X e) hs hf) fun B F0 σ H De Wx tk R m => he B F0 [] [] σ H _ Wx tk rfl R fun cls d F H1 R1 hx => m.ex xn ρ1 cls d F σ H1 h R1 hx

/-! ### targets -/
/-- v goes to the target: the slots behind it -/
def Tg (X : Cx) (tg : Expr) (d : D) (ρ ρ' : Rho) : Prop := ∀ (B F0 : Hp) (σ : St) (H : Hp) (v : V) (Q : St → Hp → Prop), Rl X.K B F0 (some (.v d) :: ρ) (some v :: σ) H → (∀ σ' H', Rl X.K B F0 ρ' σ' H' → Q σ' H') → ∃ g, PG X tg g ∧ g v σ H Q
def tG (X : Cx) (tg : Expr) : TG := fun v σ H Q => ∃ g, PG X tg g ∧ g v σ H Q
theorem pg_u (X : Cx) (tg : Expr) : PG X tg (tG X tg) := ⟨fun pins s σ H v u Q I r h => let ⟨_, p, q⟩ := h; p.run pins s σ H v u Q I r q⟩
theorem tg_name {x : Str} (i : Nat) (g : Gd X) (hi : X.N[i]? = some x := by rfl) (hx : Loc X.env.scope x := by first | exact Or.inl rfl | exact Or.inr rfl) (hf : X.fn x = true ∨ X.env.scope.names.lookup x = some .local := by first | exact .inl rfl | exact .inr rfl) :
    Tg X (.Name x pos) d ρ (ρ.set i (some (.v d))) := fun B F0 σ H v Q R k => ⟨_, pg_name g.nd hi hx hf, k _ H R.setS⟩
/-- several -/
def TgS (X : Cx) (tgs : List Expr) (ds : List D) (ρ ρ' : Rho) : Prop := ∀ (B F0 : Hp) (σ : St) (H : Hp) (vs : List V) (Q : St → Hp → Prop), Rl X.K B F0 ρ σ H → DenL X.K F0 vs ds → (∀ σ' H', Rl X.K B F0 ρ' σ' H' → Q σ' H') → ∃ g, PGs X tgs g ∧ g vs σ H Q
def tGs (X : Cx) (tgs : List Expr) : TGs := fun vs σ H Q => ∃ g, PGs X tgs g ∧ g vs σ H Q
theorem pgs_u (X : Cx) (tgs : List Expr) : PGs X tgs (tGs X tgs) := ⟨fun pins s σ H vs us Q I r h => let ⟨_, p, q⟩ := h; p.run pins s σ H vs us Q I r q⟩
theorem tgs_nil : TgS X [] [] ρ ρ := fun B F0 σ H vs Q R hd k => ⟨_, pgs_nil, by cases hd; rfl, k σ H R⟩
theorem tgs_cons {tg : Expr} {tgs : List Expr} (h1 : Tg X tg d ρ ρ1) (h2 : TgS X tgs ds ρ1 ρ2) (hs : (assignEach (tg :: tgs) X.env).map (·.2) = assign tg X.env :: (assignEach tgs X.env).map (·.2) := by rfl) : TgS X (tg :: tgs) (d :: ds) ρ ρ2 := fun B F0 σ H vs Q R hd k => by
  cases hd with
  | @cons v _ vs' _ q1 q2 =>
    exact ⟨_, pgs_cons (pg_u X tg) (pgs_u X tgs) hs, v, vs', rfl, h1 B F0 σ H v _ (R.pushF q1) fun σ1 H1 R1 => h2 B F0 σ1 H1 vs' Q R1 q2 k⟩
/-- a, b, .. = a tuple -/
theorem tg_tup {tgs : List Expr} {kx : Nat} (g : Gd X) (h : TgS X tgs ds ρ ρ1) (hl : ds.length = tgs.length) (hn : (assignEach tgs X.env).length = tgs.length := by rfl) (hst : (assignEach tgs X.env).findIdx? (·.1) = none := by rfl) : Tg X (.Tuple tgs kx pos) (.tup ds) ρ ρ1 := fun B F0 σ H v Q R k => by
  obtain ⟨F, R1, hd⟩ := R.elimF
  cases hd with
  | tup hq q =>
    refine ⟨_, pg_tup g.calm (pgs_u X tgs) hn hst, _, _, rfl, SqT.of (by obtain ⟨A, e0, e1, _⟩ := R1; exact e1.t hq), by rw [q.length, hl], h B F σ H _ Q R1.self.rl q fun σ' H' R' => k σ' H' (R1.reL R')⟩
theorem s_asg {tg : Expr} (he : Ev X e ρ (.v d) ρ1) (ht : Tg X tg d ρ1 ρ2) (h : Z.nx ρ2) (hs : swapsWithSole [tg] e pos.line X.env = pure false := by rfl) (hw : swappedStores [tg] e X.env = pure none := by rfl)
    (h1 : (assignEach [tg] X.env).map (·.2) = [assign tg X.env] := by rfl) : S1 X (.Assign [tg] e pos) ρ Z := s1_of (ps_asg (pe_u X e) (pg_u X tg) hs hw h1) fun B F0 σ H De Wx tk R m => he B F0 [] [] σ H _ rfl R fun v H1 R1 => ht B F0 σ H1 v _ R1 fun σ' H' R' => m.nx ρ2 σ' H' h R'
/-! ### loops -/
/-- for target in a list: I i before the turn i -/
theorem s_forL {tg it : Expr} (I : Nat → Rho → Prop) (g : Gd X) (he : Ev X it ρ (.v (.lst ds)) ρ1) (h0 : I 0 ρ1)
    (hs : ∀ i d ρ', ds[i]? = some d → I i ρ' → ∃ ρ2, Tg X tg d ρ' ρ2 ∧ S X body ρ2 { Z with nx := I (i + 1), ct := I (i + 1), bk := Z.nx }) (hd : ∀ ρ', I ds.length ρ' → Z.nx ρ') (hfs : ∀ x, foldedSetIterable it X.env x = pure x := by intro _; rfl) : S1 X (.For tg it body [] pos) ρ Z :=
  s1_of (ps_for g.own g.calm (pi_list (pe_u X it)) (pg_u X tg) (pss_u X body) hfs) fun B F0 σ H De Wx tk R m => he B F0 [] [] σ H _ rfl R fun v H1 R1 => by
    obtain ⟨F, RF, hd'⟩ := R1.elimF
    cases hd' with
    | @lst a xs _ hq q =>
      have sq : ∀ {ρ' σ' H'}, Rl X.K B F ρ' σ' H' → SqL X.K H' a xs := fun {ρ' σ' H'} R' => R'.same.sqL hq
      refine ⟨a, rfl, ⟨xs, sq RF.self.rl⟩, for_list (xs := xs) (fun i σ' H' => ∃ ρ', I i ρ' ∧ Rl X.K B F ρ' σ' H') ⟨ρ1, h0, RF.self.rl⟩ (fun i σ' H' _ ⟨ρ', _, R'⟩ => sq R') ?_ ?_⟩
      · rintro i y σ' H' hi ⟨ρ', hI, R'⟩
        obtain ⟨d, hd1, hd2⟩ := q.get' hi
        obtain ⟨ρ2, ht, hb⟩ := hs i d ρ' hd1 hI
        exact ht B F σ' H' y _ (R'.pushF hd2) fun σ2 H2 R2 => hb B F σ2 H2 _ Wx tk R2 ⟨fun ρ σ H h R => ⟨ρ, h, R⟩, fun r ρ v σ H h R => m.rt r ρ v σ H h (RF.reL R), fun ρ σ H h R => m.nx ρ σ H h (RF.reL R), fun ρ σ H h R => ⟨ρ, h, R⟩, fun x ρ cls d F' σ H h R hx => m.ex x ρ cls d F' σ H h (RF.re R) hx⟩
      · rintro σ' H' ⟨ρ', hI, R'⟩
        exact m.nx ρ' σ' H' (hd ρ' (by rw [← q.length]; exact hI)) (RF.reL R')
/-- for target in a tuple -/
theorem s_forT {tg it : Expr} (I : Nat → Rho → Prop) (g : Gd X) (he : Ev X it ρ (.v (.tup ds)) ρ1) (h0 : I 0 ρ1)
    (hs : ∀ i d ρ', ds[i]? = some d → I i ρ' → ∃ ρ2, Tg X tg d ρ' ρ2 ∧ S X body ρ2 { Z with nx := I (i + 1), ct := I (i + 1), bk := Z.nx }) (hd : ∀ ρ', I ds.length ρ' → Z.nx ρ') (hfs : ∀ x, foldedSetIterable it X.env x = pure x := by intro _; rfl) : S1 X (.For tg it body [] pos) ρ Z :=
  s1_of (ps_for g.own g.calm (pi_tup (pe_u X it)) (pg_u X tg) (pss_u X body) hfs) fun B F0 σ H De Wx tk R m => he B F0 [] [] σ H _ rfl R fun v H1 R1 => by
    obtain ⟨F, RF, hd'⟩ := R1.elimF
    cases hd' with
    | @tup a xs _ hq q =>
      have sq : ∀ {ρ' σ' H'}, Rl X.K B F ρ' σ' H' → SqT X.K H' a xs := fun {ρ' σ' H'} R' => SqT.of (R'.same.t hq)
      refine ⟨a, rfl, ⟨xs, sq RF.self.rl⟩, fun i k σ' H' => k = xs.length - i ∧ i ≤ xs.length ∧ ∃ ρ', I i ρ' ∧ Rl X.K B F ρ' σ' H', ⟨_, rfl, Nat.zero_le _, ρ1, h0, RF.self.rl⟩, ?_⟩
      rintro i k σ' H' ⟨rfl, hle, ρ', hI, R'⟩
      by_cases hlt : i < xs.length
      · obtain ⟨y, hi⟩ : ∃ y, xs[i]? = some y := ⟨xs[i], List.getElem?_eq_getElem hlt⟩
        refine .inr ⟨⟨xs, y, sq R', hi⟩, fun σ2 H2 => ∃ ρ2, I (i + 1) ρ2 ∧ Rl X.K B F ρ2 σ2 H2, fun σ2 H2 h => ⟨xs.length - (i + 1), by omega, rfl, by omega, h⟩, ?_⟩
        rintro w H2 ⟨rfl, hw⟩
        have hw' := hw xs (sq R')
        obtain ⟨d, hd1, hd2⟩ := q.get' hw'
        obtain ⟨ρ2, ht, hb⟩ := hs i d ρ' hd1 hI
        exact ht B F σ' _ w _ (R'.pushF hd2) fun σ2 H2 R2 => hb B F σ2 H2 _ Wx tk R2 ⟨fun ρ σ H h R => ⟨ρ, h, R⟩, fun r ρ v σ H h R => m.rt r ρ v σ H h (RF.reL R), fun ρ σ H h R => m.nx ρ σ H h (RF.reL R), fun ρ σ H h R => ⟨ρ, h, R⟩, fun x ρ cls d F' σ H h R hx => m.ex x ρ cls d F' σ H h (RF.re R) hx⟩
      · have e : i = xs.length := by omega
        subst e
        exact .inl ⟨⟨xs, sq R', Nat.le_refl _⟩, m.nx ρ' σ' H' (hd ρ' (by rw [← q.length]; exact hI)) (RF.reL R')⟩
/-- for i in range(n), range(lo, hi): the ints lo, lo + 1, .. -/
theorem s_forR {tg it : Expr} {wi : TI} (I : Nat → Rho → Prop) (n : Nat) (lo : Int) (g : Gd X) (hpi : PI X tg it wi) (hw : ∀ (B F0 : Hp) (σ : St) (H : Hp) (Rk : It → Hp → Prop), Rl X.K B F0 ρ σ H → (∀ H', Rl X.K B F0 ρ1 σ H' → Rk (Itr lo n) H') → wi σ H Rk) (h0 : I 0 ρ1)
    (hs : ∀ i ρ', i < n → I i ρ' → ∃ ρ2, Tg X tg (.int (lo + (i : Int))) ρ' ρ2 ∧ S X body ρ2 { Z with nx := I (i + 1), ct := I (i + 1), bk := Z.nx }) (hd : ∀ ρ', I n ρ' → Z.nx ρ') (hfs : ∀ x, foldedSetIterable it X.env x = pure x := by intro _; rfl) : S1 X (.For tg it body [] pos) ρ Z :=
  s1_of (ps_for g.own g.calm hpi (pg_u X tg) (pss_u X body) hfs) fun B F0 σ H De Wx tk R m => hw B F0 σ H _ R fun H1 R1 => by
    refine ⟨fun i k σ' H' => k = n - i ∧ i ≤ n ∧ ∃ ρ', I i ρ' ∧ Rl X.K B F0 ρ' σ' H', ⟨_, rfl, Nat.zero_le _, ρ1, h0, R1⟩, ?_⟩
    rintro i k σ' H' ⟨rfl, hle, ρ', hI, R'⟩
    by_cases hlt : i < n
    · refine .inr ⟨hlt, fun σ2 H2 => ∃ ρ2, I (i + 1) ρ2 ∧ Rl X.K B F0 ρ2 σ2 H2, fun σ2 H2 h => ⟨n - (i + 1), by omega, rfl, by omega, h⟩, ?_⟩
      rintro w H2 ⟨rfl, rfl⟩
      obtain ⟨ρ2, ht, hb⟩ := hs i ρ' hlt hI
      exact ht B F0 σ' _ _ _ (R'.pushS fun _ => .int _) fun σ2 H2 R2 => hb B F0 σ2 H2 _ Wx tk R2 ⟨fun ρ σ H h R => ⟨ρ, h, R⟩, m.rt, m.nx, fun ρ σ H h R => ⟨ρ, h, R⟩, m.ex⟩
    · have e : i = n := by omega
      subst e
      exact .inl ⟨Nat.le_refl _, m.nx ρ' σ' H' (hd ρ' hI) R'⟩
theorem s_forR1 {tg : Expr} {q : Pos} {nn : Int} (I : Nat → Rho → Prop) (g : Gd X) (ha : EvA X [a] ρ [.v (.int nn)] ρ1) (hz : nn ≤ 2 ^ 40) (hz2 : -(2 ^ 40) ≤ nn) (h0 : I 0 ρ1)
    (hs : ∀ i ρ', i < nn.toNat → I i ρ' → ∃ ρ2, Tg X tg (.int (i : Int)) ρ' ρ2 ∧ S X body ρ2 { Z with nx := I (i + 1), ct := I (i + 1), bk := Z.nx }) (hd : ∀ ρ', I nn.toNat ρ' → Z.nx ρ') (hm : X.mg "range" = none) (hg : Gl X "range" := by rfl) (he : starEach [a] X.env = (false, eval a X.env) :: starEach [] X.env := by rfl)
    (hfs : ∀ x, foldedSetIterable (.Call (.Name "range" p) [a] [] q) X.env x = pure x := by intro _; rfl) : S1 X (.For tg (.Call (.Name "range" p) [a] [] q) body [] pos) ρ Z :=
  s_forR I nn.toNat 0 g (pi_range1 hg hm (pa_u X [a]) (by first | exact he | rfl)) (fun B F0 σ H Rk R k => ha B F0 [] [] σ H _ rfl R fun vs H1 hl1 R1 => by
    match vs, hl1 with
    | [v], _ => exact ⟨nn, by rw [Rl.headI (show Rl X.K B F0 (some (.v (.int nn)) :: ρ1) (some v :: σ) H1 from R1)], by omega, by omega, k H1 R1.drop⟩) h0 (fun i ρ' hi hI => by
    have e : (0 : Int) + (i : Int) = (i : Int) := Int.zero_add _
    rw [e]; exact hs i ρ' hi hI) hd hfs
theorem s_forR2 {tg : Expr} {q : Pos} {lo hi : Int} (I : Nat → Rho → Prop) (g : Gd X) (ha : EvA X [a, b] ρ [.v (.int lo), .v (.int hi)] ρ1) (hz : -(2 ^ 40) ≤ lo ∧ lo ≤ 2 ^ 40 ∧ -(2 ^ 40) ≤ hi ∧ hi ≤ 2 ^ 40) (h0 : I 0 ρ1)
    (hs : ∀ i ρ', i < (hi - lo).toNat → I i ρ' → ∃ ρ2, Tg X tg (.int (lo + (i : Int))) ρ' ρ2 ∧ S X body ρ2 { Z with nx := I (i + 1), ct := I (i + 1), bk := Z.nx }) (hd : ∀ ρ', I (hi - lo).toNat ρ' → Z.nx ρ') (hm : X.mg "range" = none) (hg : Gl X "range" := by rfl) (he : starEach [a, b] X.env = [(false, eval a X.env), (false, eval b X.env)] := by rfl) (he2 : starEach [b] X.env = [(false, eval b X.env)] := by rfl)
    (hfs : ∀ x, foldedSetIterable (.Call (.Name "range" p) [a, b] [] q) X.env x = pure x := by intro _; rfl) : S1 X (.For tg (.Call (.Name "range" p) [a, b] [] q) body [] pos) ρ Z :=
  s_forR I (hi - lo).toNat lo g (pi_range2 hg hm (pa_u X [a, b]) he he2) (fun B F0 σ H Rk R k => ha B F0 [] [] σ H _ rfl R fun vs H1 hl1 R1 => by
    match vs, hl1 with
    | [v, u], _ =>
      have R2 : Rl X.K B F0 (some (.v (.int lo)) :: some (.v (.int hi)) :: ρ1) (some v :: some u :: σ) H1 := R1
      exact ⟨lo, hi, by rw [R2.headI, R2.drop.headI], by omega, k H1 R2.drop.drop⟩) h0 hs hd hfs
theorem s_while {W : Nat → Rho → Prop} {m0 : Nat} (g : Gd X) (h0 : W m0 ρ) (hs : ∀ m ρ', W m ρ' → ∃ bo ρ2, Tv X c ρ' bo ρ2 ∧ (bo = true → ∃ N : Rho → Prop, (∀ ρ3, N ρ3 → ∃ m', m' < m ∧ W m' ρ3) ∧ S X body ρ2 { Z with nx := N, ct := N, bk := Z.nx }) ∧ (bo = false → Z.nx ρ2)) : S1 X (.While c body [] pos) ρ Z :=
  s1_of (ps_while g.own (pt_u X c) (pss_u X body)) fun B F0 σ H De Wx tk R mm => by
    refine ⟨fun m σ' H' => ∃ ρ', W m ρ' ∧ Rl X.K B F0 ρ' σ' H', ⟨m0, ρ, h0, R⟩, ?_⟩
    rintro m σ' H' ⟨ρ', hW, R'⟩
    obtain ⟨bo, ρ2, ht, h1, h2⟩ := hs m ρ' hW
    refine ht B F0 [] [] σ' H' _ rfl R' fun H1 R1 => ?_
    cases bo with
    | true =>
      obtain ⟨N, hN, hb⟩ := h1 rfl
      refine iteT ⟨fun σ2 H2 => ∃ ρ3, N ρ3 ∧ Rl X.K B F0 ρ3 σ2 H2, ?_, hb B F0 σ' H1 _ Wx tk R1 ⟨fun ρ σ H h R => ⟨ρ, h, R⟩, mm.rt, mm.nx, fun ρ σ H h R => ⟨ρ, h, R⟩, mm.ex⟩⟩
      rintro σ2 H2 ⟨ρ3, hN3, R3⟩
      obtain ⟨m', hlt, hW'⟩ := hN ρ3 hN3
      exact ⟨m', hlt, ρ3, hW', R3⟩
    | false => exact iteF (mm.nx ρ2 σ' H1 (h2 rfl) R1)
/-- x += e, x -= e over ints -/
theorem s_aug {x : Str} {pos' : Pos} {op : Operator} {gI : Int → Int → Int} {n m : Int} (i : Nat) (g : Gd X) (ho : PIp X op (ipI gI)) (hr : ρ[i]? = some (some (.v (.int n)))) (he : Ev X e ρ (.v (.int m)) ρ) (h : Z.nx (ρ.set i (some (.v (.int (gI n m)))))) (hi : X.N[i]? = some x := by rfl)
    (hx : Loc X.env.scope x := by first | exact Or.inl rfl | exact Or.inr rfl) (hf : X.fn x = true ∨ X.env.scope.names.lookup x = some .local := by first | exact .inl rfl | exact .inr rfl) : S1 X (.AugAssign (.Name x pos') op e pos) ρ Z :=
  s1_of (L2.ps_aug g.nd hi hx (pe_u X e) ho hf) fun B F0 σ H De Wx tk R mm => by
    obtain ⟨v, e1, R1⟩ := Rl.get (st := []) (vst := []) R rfl hr
    have ev : v = .int n := R1.headI
    subst ev
    refine ⟨_, e1, he B F0 [] [] σ H _ rfl R fun u H2 R2 => ?_⟩
    have eu : u = .int m := R2.headI
    subst eu
    exact ⟨n, m, rfl, rfl, mm.nx _ _ H2 h ((R2.drop.pushS fun _ => .int _).setS)⟩
end
end Vl
end
section
set_option maxRecDepth 100000
namespace Vl
open PySem L2

/-- the slot of a list that a call has changed -/
def reT : T → T → T
  | .at_ a _, u => .at_ a u
  | _, u => u
section
variable {K : PySem.W.Frag} {B F0 F F' H H' : Hp} {ρ ρ' st : Rho} {σ σ' vst : St} {v : V} {d : D} {t r u u' : T}
theorem Rl.takeN {ρ1 ρ2 : Rho} {σ1 σ2 : St} (l1 : σ1.length = ρ1.length) (h : Rl K B F0 (ρ1 ++ ρ2) (σ1 ++ σ2) H) : Rl K B F0 ρ1 σ1 H := by
  obtain ⟨F, A, e0, e1, e2, dm, o, nd, fr⟩ := h
  obtain ⟨A1, A2, rfl, o1, o2⟩ := o.split l1
  exact ⟨F, A1, e0, e1, e2, dm, o1, (List.nodup_append.mp nd).1, fun a ha => fr a (List.mem_append_left _ ha)⟩
theorem Rl.tailv {ds : List D} {vs : List V} (hd : DenL K F0 vs ds) (h : Rl K B F0 ρ σ H) : Rl K B F0 (ρ ++ (ds.map T.v).map some) (σ ++ vs.map some) H := by
  obtain ⟨F, A, e0, e1, e2, dm, o, nd, fr⟩ := h
  refine ⟨F, A ++ [], e0, e1, e2, dm, o.append (OwnS.ofL (OwnL.ofDen (hd.mono e0))), by simpa using nd, fun a ha => fr a (by simpa using ha)⟩
/-- a call whose first argument is an owned thing of slot i -/
theorem Rl.calleeG {ds : List D} {vs : List V} {i : Nat} {u0 : T} {t1 : T} (h : Rl K B F0 ((ds.map fun d => some (.v d)) ++ (st ++ ρ)) (vs.map some ++ (vst ++ σ)) H) (hl : vs.length = ds.length) (hl2 : vst.length = st.length) (hi : ρ[i]? = some (some t1)) (ht : t1 = u0 ∨ ∃ a, t1 = .at_ a u0)
    (hna : ∀ a u, u0 ≠ .at_ a u) (hu0 : ∀ (F H : Hp) (v : V) (A : List Addr), Own K F H v u0 A → ∃ a, v = .ref a) :
    ∃ (B' F : Hp) (a : Addr), σ[i]? = some (some (.ref a)) ∧ (∀ a', t1 = .at_ a' u0 → a' = a) ∧ Rl K B' F (some (.at_ a u0) :: (ds.map T.v).map some) (some (.ref a) :: vs.map some) H ∧
      (∀ ρ2 σ2 r v u' H', Rl K B' F (some r :: some (.at_ a u') :: ρ2) (some v :: some (.ref a) :: σ2) H' → Rl K B F0 (some r :: (st ++ ρ.set i (some (reT t1 u')))) (some v :: (vst ++ σ)) H') := by
  obtain ⟨F, A, e0, e1, e2, dm, o, nd, fr⟩ := h
  obtain ⟨A1, A2, rfl, o1, o2⟩ := o.split (by simpa using hl)
  obtain ⟨rfl, q⟩ := OwnS.allv o1
  obtain ⟨A3, A4, rfl, o3, o4⟩ := o2.split hl2
  obtain ⟨v, B1, B2, B3, e3, rfl, o5, kk, _⟩ := o4.at hi
  rw [List.nil_append] at nd
  have fr2 : ∀ a ∈ A3 ++ (B1 ++ (B2 ++ B3)), F a = none ∧ B a = none := fun a ha => fr a (by simpa using ha)
  obtain ⟨a, ev, oa⟩ : ∃ a, v = .ref a ∧ Own K F H (.ref a) u0 B2 ∧ ∀ a', t1 = .at_ a' u0 → a' = a := by
    rcases ht with rfl | ⟨a', rfl⟩
    · obtain ⟨a, rfl⟩ := hu0 _ _ _ _ o5
      exact ⟨a, rfl, o5, fun a' e => absurd e (hna _ _)⟩
    · cases o5 with
      | at_ h1 => exact ⟨_, rfl, h1, fun a'' e => by cases e; rfl⟩
  subst ev
  obtain ⟨oa, hat⟩ := oa
  classical
  let B' : Hp := fun b => if b ∈ B2 then none else H b
  have b1 : ∀ b ∈ B2, B' b = none := fun b hb => if_pos hb
  have b2 : ∀ b, b ∉ B2 → B' b = H b := fun b hb => if_neg hb
  obtain ⟨n1, n2, n3⟩ := List.nodup_append.mp nd
  obtain ⟨n4, n5, n6⟩ := List.nodup_append.mp n2
  obtain ⟨n7, n8, n9⟩ := List.nodup_append.mp n5
  have eB : ∀ F'' : Hp, Bas B' F'' H := fun F'' b u z => by
    by_cases hb : b ∈ B2
    · rw [b1 b hb] at z; cases z
    · rw [b2 b hb] at z; exact .inl z
  refine ⟨B', F, a, e3, hat, ⟨F, B2, Same.refl _, e1, eB _, fun b u z => .inl ⟨u, z⟩, ?_, n7, fun b hb => ⟨(fr2 b (by simp [hb])).1, b1 b hb⟩⟩, fun ρ2 σ2 r v u' H' h => ?_⟩
  · have := OwnS.cons (Own.at_ oa) (OwnS.ofL (OwnL.ofDen (H := H) q))
    simpa using this
  · obtain ⟨F', A', e0', e1', e2', dm', o', nd', fr'⟩ := h
    cases o' with
    | @cons _ _ _ _ C1 C' c1 c' =>
      cases c' with
      | @cons _ _ _ _ C2 C3 c2 c3 =>
        have hc2 : Own K F' H' (.ref a) u' C2 := by cases c2 with | at_ z => exact z
        obtain ⟨m1, m2, m3⟩ := List.nodup_append.mp nd'
        obtain ⟨m4, m5, m6⟩ := List.nodup_append.mp m2
        have old : ∀ b ∈ A3 ++ (B1 ++ B3), b ∉ B2 ∧ (∃ w, H b = some w) := fun b hb => by
          rcases List.mem_append.mp hb with hb | hb
          · exact ⟨fun hc => n3 b hb b (by simp [hc]) rfl, o3.there b hb⟩
          · rcases List.mem_append.mp hb with hb | hb
            · exact ⟨fun hc => n6 b hb b (by simp [hc]) rfl, o4.there b (by simp [hb])⟩
            · exact ⟨fun hc => n9 b hc b hb rfl, o4.there b (by simp [hb])⟩
        have fz : ∀ b ∈ A3 ++ (B1 ++ B3), F b = none ∧ B b = none := fun b hb => fr2 b (by
          simp only [List.mem_append] at hb ⊢
          rcases hb with z | z | z <;> simp [z])
        have fnn : ∀ b ∈ A3 ++ (B1 ++ B3), F' b = none := fun b hb => none_of_ne fun w hw => by
          rcases dm' b w hw with ⟨w', z'⟩ | z'
          · rw [(fz b hb).1] at z'; cases z'
          · obtain ⟨z1, w2, z2⟩ := old b hb
            rw [b2 b z1, z2] at z'; cases z'
        have keep : ∀ b ∈ A3 ++ (B1 ++ B3), ∀ w, H b = some w → H' b = some w := fun b hb w hw => by
          rcases e2' b w (by rw [b2 b (old b hb).1]; exact hw) with q | ⟨q, _⟩
          · exact q
          · rw [fnn b hb] at q; cases q
        have isnew : ∀ b ∈ C1 ++ C2, b ∉ A3 ++ (B1 ++ B3) := fun b hb hc => by
          have z := (fr' b (by rcases List.mem_append.mp hb with z | z <;> simp [z])).2
          obtain ⟨z1, w, z2⟩ := old b hc
          rw [b2 b z1, z2] at z; cases z
        have o6 : Own K F' H' (.ref a) (reT t1 u') C2 := by
          rcases ht with rfl | ⟨a', rfl⟩
          · have : reT t1 u' = u' := by
              cases t1 <;> first | rfl | exact absurd rfl (hna _ _)
            rw [this]
            exact hc2
          · have ea := hat a' rfl
            subst ea
            exact .at_ hc2
        have es : σ.set i (some (.ref a)) = σ := set_self e3
        have o7 := kk F' H' (.ref a) (reT t1 u') C2 e0' (fun b hb w hw => keep b (List.mem_append_right _ hb) w hw) o6
        rw [es] at o7
        have o8 := OwnS.cons c1 ((o3.mono e0' fun b hb w hw => keep b (List.mem_append_left _ hb) w hw).append o7)
        refine ⟨F', C1 ++ (A3 ++ (B1 ++ (C2 ++ B3))), e0.trans e0', e1', fun b w z => ?_, fun b w z => ?_, o8, ?_, fun b hb => ?_⟩
        · have hb : b ∉ B2 := fun hb => by
            rw [(fr2 b (by simp [hb])).2] at z; cases z
          rcases e2 b w z with q | ⟨q, o9, kvs, e9, q2⟩
          · exact e2' b w (by rw [b2 b hb]; exact q)
          · rcases e2' b _ (by rw [b2 b hb]; exact q2) with w9 | ⟨_, _, _, e3, _⟩
            · exact .inr ⟨e0' b w q, o9, kvs, e9, w9⟩
            · cases e3
        · rcases dm' b w z with ⟨w', z'⟩ | z'
          · exact dm b w' z'
          · by_cases hb : b ∈ B2
            · exact .inr (fr2 b (by simp [hb])).2
            · rw [b2 b hb] at z'; exact .inr (e2.free z')
        · have pm : (C1 ++ (A3 ++ (B1 ++ (C2 ++ B3)))).Perm ((C1 ++ C2) ++ (A3 ++ (B1 ++ B3))) := by
            have p1 : (A3 ++ (B1 ++ (C2 ++ B3))).Perm (C2 ++ (A3 ++ (B1 ++ B3))) := by
              have h1 : (B1 ++ (C2 ++ B3)).Perm (C2 ++ (B1 ++ B3)) := by
                rw [← List.append_assoc, ← List.append_assoc]
                exact List.Perm.append_right _ List.perm_append_comm
              have h2 : (A3 ++ (C2 ++ (B1 ++ B3))).Perm (C2 ++ (A3 ++ (B1 ++ B3))) := by
                have := List.Perm.append_right (B1 ++ B3) (List.perm_append_comm (l₁ := A3) (l₂ := C2))
                simpa [List.append_assoc] using this
              exact (h1.append_left A3).trans h2
            rw [List.append_assoc]
            exact p1.append_left C1
          have sub : List.Sublist (A3 ++ (B1 ++ B3)) (A3 ++ (B1 ++ (B2 ++ B3))) := List.Sublist.append (List.Sublist.refl _) (List.Sublist.append (List.Sublist.refl _) (List.sublist_append_right _ _))
          refine pm.nodup_iff.mpr (List.nodup_append.mpr ⟨List.nodup_append.mpr ⟨m1, m4, fun b hb c hc e => m3 b hb c (by simp [hc]) e⟩, nd.sublist sub, fun b hb c hc e => isnew b hb (e ▸ hc)⟩)
        · have hb' : b ∈ C1 ++ C2 ∨ b ∈ A3 ++ (B1 ++ B3) := by
            simp only [List.mem_append] at hb ⊢
            rcases hb with z | z | z | z | z <;> simp [z]
          rcases hb' with hb | hb
          · have z := fr' b (by rcases List.mem_append.mp hb with z | z <;> simp [z])
            refine ⟨z.1, ?_⟩
            by_cases hc : b ∈ B2
            · exact (fr2 b (by simp [hc])).2
            · rw [b2 b hc] at z; exact e2.free z.2
          · exact ⟨fnn b hb, (fz b hb).2⟩
theorem Rl.calleeM {ds : List D} {vs : List V} {i : Nat} {us : List T} {t1 : T} (h : Rl K B F0 ((ds.map fun d => some (.v d)) ++ (st ++ ρ)) (vs.map some ++ (vst ++ σ)) H) (hl : vs.length = ds.length) (hl2 : vst.length = st.length) (hi : ρ[i]? = some (some t1)) (ht : t1 = .lst us ∨ ∃ a, t1 = .at_ a (.lst us)) :
    ∃ (B' F : Hp) (a : Addr), σ[i]? = some (some (.ref a)) ∧ (∀ a', t1 = .at_ a' (.lst us) → a' = a) ∧ Rl K B' F (some (.at_ a (.lst us)) :: (ds.map T.v).map some) (some (.ref a) :: vs.map some) H ∧
      (∀ ρ2 σ2 r v u' H', Rl K B' F (some r :: some (.at_ a u') :: ρ2) (some v :: some (.ref a) :: σ2) H' → Rl K B F0 (some r :: (st ++ ρ.set i (some (reT t1 u')))) (some v :: (vst ++ σ)) H') :=
  h.calleeG hl hl2 hi ht (fun _ _ e => by cases e) fun F H v A o => by
    cases o with
    | lst _ _ => exact ⟨_, rfl⟩
end

section
variable {X : Cx} {e a b c : Expr} {es rest : List Expr} {ρ ρ1 ρ2 ρ3 : Rho} {d x y z : D} {r t u' : T} {ts us : List T} {ds : List D} {pos p p2 : Pos} {i k : Nat} {bo bo' : Bool} {f xa : Str} {R : Pr} {xn : Xn}
/-- f(x, ..), x an owned list that f may change -/
theorem ev_callM {pa : Pos} (i : Nat) {t0 t1 : T} (Fd : Fn X.prog X.w X.K X.mg X.base k f R) (hr : Room k X.A) (ha : EvA X es ρ ts ρ1) (hi : ρ1[i]? = some (some t1)) (ht : t1 = .lst us ∨ ∃ a, t1 = .at_ a (.lst us))
    (hR : ∀ a, R (.at_ a (.lst us) :: ts.map fun t => .v t.d) (fun r' ts' => r' = r ∧ ∃ more, ts' = .at_ a u' :: more) (fun _ => False)) (h2 : ρ2 = ρ1.set i (some (reT t1 u'))) (hi0 : ρ[i]? = some (some t0) := by rfl) (hN : X.N[i]? = some xa := by rfl) (hv : Vis X.env.scope xa := by first | exact Or.inl rfl | exact Or.inr (Or.inl rfl) | exact Or.inr (Or.inr rfl)) (hg : Gl X f := by rfl)
    (hd1 : (xa == ("__debug__" : Str)) = false := by decide) (hcd : (xa == ("__classdict__" : Str)) = false := by decide) (hdb : (f == ("__debug__" : Str)) = false := by decide)
    (he : starEach (.Name xa pa :: es) X.env = (false, eval (.Name xa pa) X.env) :: starEach es X.env := by rfl) (hpl : (backTo pos (starEach es X.env)).any (·.1) = false := by rfl) :
    Ev X (.Call (.Name f p) (.Name xa pa :: es) [] pos) ρ r ρ2 := by
  subst h2
  obtain ⟨fa, fd, ps, F, hm, hk, hb⟩ := Fd
  refine ev_of (pe_callS F hr hg hm hk hb passE0 (pa_cons (pe_var hN hv hd1 hcd) (pa_u X es) he) hdb he hpl) fun B F0 st vst σ H Q hl R0 kk => ?_
  obtain ⟨v0, _, _, hv0, _⟩ := R0.slot hl hi0
  refine ⟨v0, hv0, ha.frz B F0 st vst σ H _ hl R0 fun vs H1 hl1 R1 => ?_⟩
  have R2 := rl_v (ts.map T.d) (by simpa [List.map_map, Function.comp_def] using R1)
  have hl2 : vs.length = (ts.map T.d).length := by simpa using hl1
  obtain ⟨B', F', a, hv1, _, Rc, back⟩ := R2.calleeM hl2 hl hi ht
  rw [hv0] at hv1
  cases hv1
  refine ⟨B', F', .at_ a (.lst us) :: ts.map fun t => .v t.d, _, _, by simpa using hl1, by simpa [List.map_map, Function.comp_def] using Rc, hR a, fun r' ts' v H' e h => ?_, fun _ _ _ _ _ h _ _ => h.elim⟩
  obtain ⟨rfl, more, rfl⟩ := e
  exact kk v H' (back _ _ _ _ _ _ h)
end

/-! ### a def and its body -/
section
variable {P : Program} {w : World} {K : PySem.W.Frag} {mg : Str → Option Value} {base : Heap}
abbrev cxD (P : Program) (w : World) (K : PySem.W.Frag) (mg : Str → Option Value) (base : Heap) (N : List Str) (qual : Str) (st : Stmt) (f : Addr) (cdv : Value) (A : Around) (outer : List Env) (s : Shared) (H : Hp) (E : XK) : Cx :=
  cxOf (L2.CX P w) P w K mg base N qual (defScope st) f cdv A outer s H E
theorem gd_of {N ps : List Str} {qual : Str} {st : Stmt} {f : Addr} {cdv : Value} {A : Around} {outer : List Env} {s : Shared} {H : Hp} {E : XK} {k : Nat} (S : FnScope N ps (defScope st)) (hr : Room k (cxD P w K mg base N qual st f cdv A outer s H E).A) : Gd (cxD P w K mg base N qual st f cdv A outer s H E) :=
  ⟨passes_of rfl, rfl, S.nd, hr.units⟩
/-- a def all of whose arguments are only read -/
theorem fn_v {x qual : Str} {st : Stmt} {f : Addr} {fd : FuncData} {N ps : List Str} {k : Nat} {R : Pr} (F : Fun K x qual st f fd) (S' : FnScope N ps (defScope st)) (hm : mg x = some (.ref f)) (hb : Binds K fd ps [])
    (hR : ∀ ts Qt Qx, R ts Qt Qx → ∃ ds : List D, ts = ds.map T.v ∧ ds.length = ps.length) (hN : ps.length ≤ N.length)
    (hbody : ∀ (cdv : Value) (A : Around) (outer : List Env) (s : Shared) (H : Hp) (E : XK) (ds : List D) (Qt : T → List T → Prop) (Qx : Xn → Prop), Room k (cxD P w K mg base N qual st f cdv A outer s H E).A → R (ds.map T.v) Qt Qx →
      S (cxD P w K mg base N qual st f cdv A outer s H E) (defBody st) ((ds.map fun d => some (T.v d)) ++ List.replicate (N.length - ds.length) none) { nx := fun _ => Qt (.v .non) (ds.map T.v), rt := fun r _ => Qt r (ds.map T.v), ex := fun x _ => Qx x }) : Fn P w K mg base (k + 1) x R := by
  refine ⟨f, fd, ps, F.okX S' (fun vs H Q E h => ?_) (fun cdv A outer s H vs Q E hr h => ?_), hm, F.kp, hb⟩
  · obtain ⟨B, F0, ts, Qt, Qx, hl, _, h, _⟩ := h
    obtain ⟨ds, rfl, hd⟩ := hR _ _ _ h
    rw [hl]; simpa using hd
  · obtain ⟨B, F0, ts, Qt, Qx, hl, R0, h, k1, k2⟩ := h
    obtain ⟨ds, rfl, hd⟩ := hR _ _ _ h
    have hl' : vs.length = ds.length := by simpa using hl
    obtain ⟨F', RF⟩ := R0
    have hden : DenL K F' vs ds := by
      obtain ⟨A', _, _, _, _, o, _⟩ := RF
      have o' : OwnS K F' H (vs.map some) (ds.map fun d => some (T.v d)) A' := by simpa [List.map_map, Function.comp_def] using o
      exact (OwnS.allv o').2
    refine ⟨_, pss_u _ _, ?_⟩
    have R1 : Rl K B F' ((ds.map fun d => some (T.v d)) ++ List.replicate (N.length - ds.length) none) (L2.start N vs) H := by
      obtain ⟨A', e0, e1, e2, dm, o, nd, fr⟩ := RF.self
      have o' : OwnS K F' H (vs.map some) (ds.map fun d => some (T.v d)) A' := by simpa [List.map_map, Function.comp_def] using o
      have pad : ∀ n, OwnS K F' H (List.replicate n none) (List.replicate n none) [] := fun n => by
        induction n with
        | zero => exact .nil
        | succ n ih => exact .skip ih
      refine ⟨F', A' ++ [], e0, e1, e2, dm, ?_, by simpa using nd, fun a ha => fr a (by simpa using ha)⟩
      unfold L2.start
      rw [hl']
      exact o'.append (pad _)
    have back : ∀ {r : T} {v : V} {ρ2 : Rho} {σ2 : St} {H2 : Hp}, Rl K B F' (some r :: ρ2) (some v :: σ2) H2 → Rl K B F0 (some r :: (ds.map T.v).map some) (some v :: vs.map some) H2 := fun {r v ρ2 σ2 H2} R2 => by
      have R3 := Rl.takeN (ρ1 := [some r]) (σ1 := [some v]) rfl R2
      exact RF.reL (Rl.tailv hden R3)
    refine hbody cdv A outer s H E ds Qt Qx hr h B F' (L2.start N vs) H _ (fun cls d _ H2 => E cls d H2) (takes_of rfl rfl rfl rfl) R1 ⟨fun ρ2 σ2 H2 q R2 => ?_, fun r ρ2 v σ2 H2 q R2 => ?_, fun _ _ _ q => q.elim, fun _ _ _ q => q.elim, fun x' ρ2 cls d F2 σ2 H2 q R2 hx => ?_⟩
    · exact k1 _ _ _ H2 q (back (R2.pushS fun _ => .non))
    · exact k1 _ _ _ H2 q (back R2)
    · refine k2 x' cls d F2 H2 q ?_ hx
      have R3 := RF.re R2
      obtain ⟨A', e0, e1, e2, dm, o, nd, fr⟩ := R3
      exact ⟨[], e0, e1, e2, dm, .nil, List.nodup_nil, fun a ha => by cases ha⟩
/-- a def whose first argument is a thing that it may change -/
theorem fnok_m {x qual : Str} {st : Stmt} {f : Addr} {fd : FuncData} {N ps : List Str} {k : Nat} {R : Pr} (F : Fun K x qual st f fd) (S' : FnScope N ps (defScope st))
    (hR : ∀ ts Qt Qx, R ts Qt Qx → ∃ (a : Addr) (u : T) (ds : List D), ts = .at_ a u :: ds.map T.v ∧ ds.length + 1 = ps.length) (hN : ps.length ≤ N.length)
    (hbody : ∀ (cdv : Value) (A : Around) (outer : List Env) (s : Shared) (H : Hp) (E : XK) (a : Addr) (u : T) (ds : List D) (Qt : T → List T → Prop) (Qx : Xn → Prop), Room k (cxD P w K mg base N qual st f cdv A outer s H E).A → R (.at_ a u :: ds.map T.v) Qt Qx →
      S (cxD P w K mg base N qual st f cdv A outer s H E) (defBody st) (some (.at_ a u) :: ((ds.map fun d => some (T.v d)) ++ List.replicate (N.length - (ds.length + 1)) none)) { nx := fun ρ => ∃ u', ρ[0]? = some (some (.at_ a u')) ∧ Qt (.v .non) (.at_ a u' :: ds.map T.v), rt := fun r ρ => ∃ u', ρ[0]? = some (some (.at_ a u')) ∧ Qt r (.at_ a u' :: ds.map T.v), ex := fun x _ => Qx x }) : FnOk P w K mg base (L2.CX P w) (k + 1) f fd ps (spF K R) := by
  refine F.okX S' (fun vs H Q E h => ?_) (fun cdv A outer s H vs Q E hr h => ?_)
  · obtain ⟨B, F0, ts, Qt, Qx, hl, _, h, _⟩ := h
    obtain ⟨a, u, ds, rfl, hd⟩ := hR _ _ _ h
    rw [hl]; simpa using hd
  · obtain ⟨B, F0, ts, Qt, Qx, hl, R0, h, k1, k2⟩ := h
    obtain ⟨a, u, ds, rfl, hd⟩ := hR _ _ _ h
    cases vs with
    | nil => simp at hl
    | cons v0 vs =>
      have hl' : vs.length = ds.length := by simpa using hl
      obtain ⟨F', RF⟩ := R0
      obtain ⟨ev, hden⟩ : v0 = .ref a ∧ DenL K F' vs ds := by
        obtain ⟨A', _, _, _, _, o, _⟩ := RF
        cases o with
        | cons o1 o2 =>
          refine ⟨?_, (OwnS.allv (by simpa [List.map_map, Function.comp_def] using o2)).2⟩
          cases o1 with
          | at_ _ => rfl
      subst ev
      refine ⟨_, pss_u _ _, ?_⟩
      have R1 : Rl K B F' (some (.at_ a u) :: ((ds.map fun d => some (T.v d)) ++ List.replicate (N.length - (ds.length + 1)) none)) (L2.start N (.ref a :: vs)) H := by
        obtain ⟨A', e0, e1, e2, dm, o, nd, fr⟩ := RF.self
        have o' : OwnS K F' H (some (.ref a) :: vs.map some) (some (.at_ a u) :: ds.map fun d => some (T.v d)) A' := by simpa [List.map_map, Function.comp_def] using o
        have pad : ∀ n, OwnS K F' H (List.replicate n none) (List.replicate n none) [] := fun n => by
          induction n with
          | zero => exact .nil
          | succ n ih => exact .skip ih
        refine ⟨F', A' ++ [], e0, e1, e2, dm, ?_, by simpa using nd, fun a ha => fr a (by simpa using ha)⟩
        unfold L2.start
        simp only [List.map_cons, List.length_cons, hl', List.cons_append]
        exact o'.append (pad _)
      have back : ∀ {r u' : T} {v : V} {ρ2 : Rho} {σ2 : St} {H2 : Hp}, ρ2[0]? = some (some (.at_ a u')) → Rl K B F' (some r :: ρ2) (some v :: σ2) H2 → Rl K B F0 (some r :: (.at_ a u' :: ds.map T.v).map some) (some v :: (V.ref a :: vs).map some) H2 := fun {r u' v ρ2 σ2 H2} e R2 => by
        cases ρ2 with
        | nil => simp at e
        | cons x ρ2 =>
          simp only [List.getElem?_cons_zero, Option.some.injEq] at e
          subst e
          cases σ2 with
          | nil =>
            have := R2.len
            simp at this
          | cons y σ2 =>
            have R3 : Rl K B F' ([some r, some (.at_ a u')] ++ ρ2) ([some v, y] ++ σ2) H2 := R2
            have R4 := Rl.takeN (by rfl) R3
            have ey : y = some (.ref a) := by
              obtain ⟨F2, A2, _, _, _, _, o, _⟩ := R4
              cases o with
              | cons _ o =>
                cases o with
                | cons o1 _ =>
                  cases o1 with
                  | at_ _ => rfl
            subst ey
            have := RF.reL (Rl.tailv hden R4)
            simpa using this
      refine hbody cdv A outer s H E a u ds Qt Qx hr h B F' (L2.start N (.ref a :: vs)) H _ (fun cls d _ H2 => E cls d H2) (takes_of rfl rfl rfl rfl) R1 ⟨fun ρ2 σ2 H2 q R2 => ?_, fun r ρ2 v σ2 H2 q R2 => ?_, fun _ _ _ q => q.elim, fun _ _ _ q => q.elim, fun x' ρ2 cls d F2 σ2 H2 q R2 hx => ?_⟩
      · obtain ⟨u', q1, q2⟩ := q
        exact k1 _ _ _ H2 q2 (back q1 (R2.pushS fun _ => .non))
      · obtain ⟨u', q1, q2⟩ := q
        exact k1 _ _ _ H2 q2 (back q1 R2)
      · refine k2 x' cls d F2 H2 q ?_ hx
        have R3 := RF.re R2
        obtain ⟨A', e0, e1, e2, dm, o, nd, fr⟩ := R3
        exact ⟨[], e0, e1, e2, dm, .nil, List.nodup_nil, fun a ha => by cases ha⟩
theorem fn_m {x qual : Str} {st : Stmt} {f : Addr} {fd : FuncData} {N ps : List Str} {k : Nat} {R : Pr} (F : Fun K x qual st f fd) (S' : FnScope N ps (defScope st)) (hm : mg x = some (.ref f)) (hb : Binds K fd ps [])
    (hR : ∀ ts Qt Qx, R ts Qt Qx → ∃ (a : Addr) (u : T) (ds : List D), ts = .at_ a u :: ds.map T.v ∧ ds.length + 1 = ps.length) (hN : ps.length ≤ N.length)
    (hbody : ∀ (cdv : Value) (A : Around) (outer : List Env) (s : Shared) (H : Hp) (E : XK) (a : Addr) (u : T) (ds : List D) (Qt : T → List T → Prop) (Qx : Xn → Prop), Room k (cxD P w K mg base N qual st f cdv A outer s H E).A → R (.at_ a u :: ds.map T.v) Qt Qx →
      S (cxD P w K mg base N qual st f cdv A outer s H E) (defBody st) (some (.at_ a u) :: ((ds.map fun d => some (T.v d)) ++ List.replicate (N.length - (ds.length + 1)) none)) { nx := fun ρ => ∃ u', ρ[0]? = some (some (.at_ a u')) ∧ Qt (.v .non) (.at_ a u' :: ds.map T.v), rt := fun r ρ => ∃ u', ρ[0]? = some (some (.at_ a u')) ∧ Qt r (.at_ a u' :: ds.map T.v), ex := fun x _ => Qx x }) : Fn P w K mg base (k + 1) x R :=
  ⟨f, fd, ps, fnok_m F S' hR hN hbody, hm, F.kp, hb⟩
end
end Vl
end
section
set_option maxRecDepth 100000
namespace Vl
open PySem L2

/-! ### isinstance -/
/-- a class of the text's own, as isinstance asks of it -/
structure ClsI (K : PySem.W.Frag) (C : Addr) : Prop where
  cl : Cls K C
  ha : PySem.W.findIn K (.ref C) "__class__" = some (some (.builtin "object.__class__"))
  hn : PySem.W.specialIn K (.builtin "object.__class__") "__get__" = some (some (.builtin "getset_descriptor.__get__"))
  htk : PySem.W.takesIn K (.builtin "object.__class__") = some true
  hm : PySem.W.mroIn K C (.type "object") = some true
  kint : PySem.W.kitOne K (.ref C) (.type "int") = some false
  kbool : PySem.W.kitOne K (.ref C) (.type "bool") = some false
  kstr : PySem.W.kitOne K (.ref C) (.type "str") = some false
  ktup : PySem.W.kitOne K (.ref C) (.type "tuple") = some false
  klst : PySem.W.kitOne K (.ref C) (.type "list") = some false
  kdic : PySem.W.kitOne K (.ref C) (.type "dict") = some false
def D.tyv : D → Value
  | .non => .type "NoneType" | .bl _ => .type "bool" | .int _ => .type "int" | .str _ => .type "str" | .tup _ => .type "tuple" | .lst _ => .type "list" | .dic _ => .type "dict" | .dit _ => .type "dict" | .obj C _ => .ref C | .ty _ => .type "type" | .ref _ => .none
/-- what isinstance is told of -/
def D.isOk (K : PySem.W.Frag) : D → Prop
  | .obj C _ => ClsI K C
  | .ref _ => False | .ty _ => False | .dit _ => False
  | _ => True
theorem den_tyx {K : PySem.W.Frag} {H : Hp} {v : V} {d : D} (h : Den K H v d) (ok : d.isOk K) : TyX K H v d.tyv := by
  cases h with
  | non => exact .base .non
  | bl b => exact .base (.bl b)
  | int i => exact .base (.int i)
  | str x => exact .base (.str x)
  | ty n => exact ok.elim
  | ref a => exact ok.elim
  | tup h q => exact .base (.tup h)
  | lst h q =>
    rcases h with (h | ⟨o, h⟩) | ⟨o, its, n, h1, h2, _⟩
    · exact .base (.lst h)
    · exact .base (.frz h)
    · exact .kList h1 h2
  | dic h k q =>
    rcases h with h | ⟨o, h⟩
    · exact .base (.dK h)
    · exact .fDict h
  | dit h k q => exact ok.elim
  | obj h k q => exact .base (.ins h ok.cl ok.ha ok.hn ok.htk ok.hm)
def D.isInt : D → Bool | .int _ => true | .bl _ => true | _ => false
def D.isBl : D → Bool | .bl _ => true | _ => false
def D.isStr : D → Bool | .str _ => true | _ => false
def D.isTup : D → Bool | .tup _ => true | _ => false
def D.isLst : D → Bool | .lst _ => true | _ => false
def D.isDic : D → Bool | .dic _ => true | .dit _ => true | _ => false
section
variable {X : Cx} {e a b c : Expr} {es rest : List Expr} {ρ ρ1 ρ2 ρ3 : Rho} {d x y z : D} {r t : T} {ts : List T} {ds : List D} {pos p p2 : Pos} {i k : Nat} {bo bo' : Bool} {f : Str} {R : Pr} {xn : Xn}
theorem ev_bty {n : String} (hm : X.mg f = none) (hv : bootBuiltins f = some (.type n)) (hg : Gl X f := by rfl) (hn : f ≠ "__name__" := by decide) (hdb : (f == ("__debug__" : Str)) = false := by decide) : Ev X (.Name f p) ρ (.v (.ty n)) ρ :=
  ev_of (pe_bltn (v := .ty n) hg hm hv rfl hn hdb) fun B F0 st vst σ H Q hl R k => k _ H (R.pushS fun _ => .ty n)
theorem ev_isi {n : String} (ha : Ev X a ρ (.v d) ρ1) (hb : Ev X b ρ1 (.v (.ty n)) ρ2) (ok : d.isOk X.K) (hk : PySem.W.kitOne X.K d.tyv (.type n) = some bo) (hm : X.mg "isinstance" = none) (hg : Gl X "isinstance" := by rfl)
    (h1 : starEach [a, b] X.env = (false, eval a X.env) :: starEach [b] X.env := by rfl) (h2 : starEach [b] X.env = (false, eval b X.env) :: starEach [] X.env := by rfl) (hpl : (backTo pos (starEach [b] X.env)).any (·.1) = false := by rfl) : Ev X (.Call (.Name "isinstance" p) [a, b] [] pos) ρ (.v (.bl bo)) ρ2 :=
  ev_callB call_isi hm PyProof.Rows.boot_isinstance (eva_cons ha (eva_cons hb eva_nil h2) h1) (fun H vs Q h k => by
    obtain ⟨v, v', rfl, hd, hd'⟩ := denl2 h
    rw [T.d_v] at hd hd'
    cases hd'
    exact ⟨v, .ty n, d.tyv, .type n, bo, rfl, .ty n, den_tyx hd ok, hk, k _ fun _ => .bl _⟩) hg (he := h1) (hpl := hpl)
theorem kit_i {K : PySem.W.Frag} (ok : d.isOk K) : PySem.W.kitOne K d.tyv (.type "int") = some d.isInt := by
  cases d with
  | non => exact kit_ty (a := "NoneType") (r := false) (by decide +kernel)
  | bl => exact kit_ty (a := "bool") (r := true) (by decide +kernel)
  | int => exact kit_ty (a := "int") (r := true) (by decide +kernel)
  | str => exact kit_ty (a := "str") (r := false) (by decide +kernel)
  | tup => exact kit_ty (a := "tuple") (r := false) (by decide +kernel)
  | lst => exact kit_ty (a := "list") (r := false) (by decide +kernel)
  | dic => exact kit_ty (a := "dict") (r := false) (by decide +kernel)
  | obj C fs => exact ok.kint
  | ref a => exact ok.elim
  | ty n => exact ok.elim
  | dit kvs => exact ok.elim
theorem kit_b {K : PySem.W.Frag} (ok : d.isOk K) : PySem.W.kitOne K d.tyv (.type "bool") = some d.isBl := by
  cases d with
  | non => exact kit_ty (a := "NoneType") (r := false) (by decide +kernel)
  | bl => exact kit_ty (a := "bool") (r := true) (by decide +kernel)
  | int => exact kit_ty (a := "int") (r := false) (by decide +kernel)
  | str => exact kit_ty (a := "str") (r := false) (by decide +kernel)
  | tup => exact kit_ty (a := "tuple") (r := false) (by decide +kernel)
  | lst => exact kit_ty (a := "list") (r := false) (by decide +kernel)
  | dic => exact kit_ty (a := "dict") (r := false) (by decide +kernel)
  | obj C fs => exact ok.kbool
  | ref a => exact ok.elim
  | ty n => exact ok.elim
  | dit kvs => exact ok.elim
theorem kit_s {K : PySem.W.Frag} (ok : d.isOk K) : PySem.W.kitOne K d.tyv (.type "str") = some d.isStr := by
  cases d with
  | non => exact kit_ty (a := "NoneType") (r := false) (by decide +kernel)
  | bl => exact kit_ty (a := "bool") (r := false) (by decide +kernel)
  | int => exact kit_ty (a := "int") (r := false) (by decide +kernel)
  | str => exact kit_ty (a := "str") (r := true) (by decide +kernel)
  | tup => exact kit_ty (a := "tuple") (r := false) (by decide +kernel)
  | lst => exact kit_ty (a := "list") (r := false) (by decide +kernel)
  | dic => exact kit_ty (a := "dict") (r := false) (by decide +kernel)
  | obj C fs => exact ok.kstr
  | ref a => exact ok.elim
  | ty n => exact ok.elim
  | dit kvs => exact ok.elim
theorem kit_t {K : PySem.W.Frag} (ok : d.isOk K) : PySem.W.kitOne K d.tyv (.type "tuple") = some d.isTup := by
  cases d with
  | non => exact kit_ty (a := "NoneType") (r := false) (by decide +kernel)
  | bl => exact kit_ty (a := "bool") (r := false) (by decide +kernel)
  | int => exact kit_ty (a := "int") (r := false) (by decide +kernel)
  | str => exact kit_ty (a := "str") (r := false) (by decide +kernel)
  | tup => exact kit_ty (a := "tuple") (r := true) (by decide +kernel)
  | lst => exact kit_ty (a := "list") (r := false) (by decide +kernel)
  | dic => exact kit_ty (a := "dict") (r := false) (by decide +kernel)
  | obj C fs => exact ok.ktup
  | ref a => exact ok.elim
  | ty n => exact ok.elim
  | dit kvs => exact ok.elim
theorem kit_l {K : PySem.W.Frag} (ok : d.isOk K) : PySem.W.kitOne K d.tyv (.type "list") = some d.isLst := by
  cases d with
  | non => exact kit_ty (a := "NoneType") (r := false) (by decide +kernel)
  | bl => exact kit_ty (a := "bool") (r := false) (by decide +kernel)
  | int => exact kit_ty (a := "int") (r := false) (by decide +kernel)
  | str => exact kit_ty (a := "str") (r := false) (by decide +kernel)
  | tup => exact kit_ty (a := "tuple") (r := false) (by decide +kernel)
  | lst => exact kit_ty (a := "list") (r := true) (by decide +kernel)
  | dic => exact kit_ty (a := "dict") (r := false) (by decide +kernel)
  | obj C fs => exact ok.klst
  | ref a => exact ok.elim
  | ty n => exact ok.elim
  | dit kvs => exact ok.elim
theorem kit_d {K : PySem.W.Frag} (ok : d.isOk K) : PySem.W.kitOne K d.tyv (.type "dict") = some d.isDic := by
  cases d with
  | non => exact kit_ty (a := "NoneType") (r := false) (by decide +kernel)
  | bl => exact kit_ty (a := "bool") (r := false) (by decide +kernel)
  | int => exact kit_ty (a := "int") (r := false) (by decide +kernel)
  | str => exact kit_ty (a := "str") (r := false) (by decide +kernel)
  | tup => exact kit_ty (a := "tuple") (r := false) (by decide +kernel)
  | lst => exact kit_ty (a := "list") (r := false) (by decide +kernel)
  | dic => exact kit_ty (a := "dict") (r := true) (by decide +kernel)
  | obj C fs => exact ok.kdic
  | ref a => exact ok.elim
  | ty n => exact ok.elim
  | dit kvs => exact ok.elim
end
end Vl
end
section
set_option maxRecDepth 100000
namespace Vl
open PySem L2

/-- A has no more in it than B -/
def Less (A B : List Addr) : Prop := ∃ L : List Addr, A.Perm L ∧ L.Sublist B
theorem Less.refl (A : List Addr) : Less A A := ⟨A, List.Perm.refl _, List.Sublist.refl _⟩
theorem Less.of_perm {A B : List Addr} (h : A.Perm B) : Less A B := ⟨B, h, List.Sublist.refl _⟩
theorem Less.of_sub {A B : List Addr} (h : A.Sublist B) : Less A B := ⟨A, List.Perm.refl _, h⟩
theorem Less.nodup {A B : List Addr} (h : Less A B) (nd : B.Nodup) : A.Nodup := by
  obtain ⟨L, p, s⟩ := h
  exact p.nodup_iff.mpr (nd.sublist s)
theorem Less.mem {A B : List Addr} (h : Less A B) {a : Addr} (ha : a ∈ A) : a ∈ B := by
  obtain ⟨L, p, s⟩ := h
  exact s.subset (p.mem_iff.mp ha)
theorem Less.app {A B C D : List Addr} (h : Less A B) (h' : Less C D) : Less (A ++ C) (B ++ D) := by
  obtain ⟨L, p, s⟩ := h
  obtain ⟨L', p', s'⟩ := h'
  exact ⟨L ++ L', p.append p', s.append s'⟩
theorem Less.trans {A B C : List Addr} (h : Less A B) (h' : Less B C) : Less A C := by
  obtain ⟨L, p, s⟩ := h
  obtain ⟨M, q, u⟩ := h'
  obtain ⟨L', p', s'⟩ := List.exists_perm_sublist s q
  exact ⟨L', p.trans p'.symm, s'.trans u⟩
theorem Less.cons {A B : List Addr} (a : Addr) (h : Less A B) : Less (a :: A) (a :: B) := Less.app (Less.refl [a]) h

section
variable {K : PySem.W.Frag} {F H H' : Hp}
theorem OwnL.len {xs : List V} {ts : List T} {A : List Addr} : OwnL K F H xs ts A → xs.length = ts.length
  | .nil => rfl
  | .cons _ q => by simp [OwnL.len q]
theorem OwnL.append {ys : List V} {us : List T} {B : List Addr} : ∀ {xs : List V} {ts : List T} {A : List Addr}, OwnL K F H xs ts A → OwnL K F H ys us B → OwnL K F H (xs ++ ys) (ts ++ us) (A ++ B)
  | _, _, _, .nil, q => q
  | _, _, _, .cons h t, q => by rw [List.append_assoc]; exact .cons h (OwnL.append t q)
theorem OwnL.set {y : V} {u : T} {B : List Addr} (ho : Own K F H y u B) : ∀ {xs : List V} {ts : List T} {A : List Addr} (j : Nat), OwnL K F H xs ts A → ∃ A', OwnL K F H (xs.set j y) (ts.set j u) A' ∧ Less A' (A ++ B)
  | _, _, _, _, .nil => ⟨[], .nil, Less.of_sub (List.nil_sublist _)⟩
  | _, _, _, 0, .cons (A := A) (B := C) h q => ⟨B ++ C, .cons ho q, by
      have h1 : Less (B ++ C) (C ++ B) := Less.of_perm List.perm_append_comm
      exact h1.trans (Less.of_sub (List.Sublist.append (List.sublist_append_right A C) (List.Sublist.refl B)))⟩
  | _, _, _, j + 1, .cons (A := A) h q => by
      obtain ⟨A', o, l⟩ := OwnL.set ho j q
      exact ⟨A ++ A', .cons h o, by rw [List.append_assoc]; exact (Less.refl A).app l⟩
theorem OwnL.dropLast : ∀ {xs : List V} {ts : List T} {A : List Addr}, OwnL K F H xs ts A → ∃ A', OwnL K F H xs.dropLast ts.dropLast A' ∧ Less A' A
  | _, _, _, .nil => ⟨[], .nil, Less.refl _⟩
  | [_], [_], _, .cons (A := A) h .nil => ⟨[], .nil, Less.of_sub (List.nil_sublist _)⟩
  | _ :: _ :: _, _ :: _ :: _, _, .cons (A := A) h (.cons h2 q) => by
      obtain ⟨A', o, l⟩ := OwnL.dropLast (.cons h2 q)
      exact ⟨A ++ A', .cons h o, (Less.refl A).app l⟩
theorem OwnL.erase : ∀ {xs : List V} {ts : List T} {A : List Addr} (j : Nat), OwnL K F H xs ts A → ∃ A', OwnL K F H (xs.eraseIdx j) (ts.eraseIdx j) A' ∧ Less A' A
  | _, _, _, _, .nil => ⟨[], .nil, Less.refl _⟩
  | _, _, _, 0, .cons (A := A) (B := B) h q => ⟨B, q, Less.of_sub (List.sublist_append_right _ _)⟩
  | _, _, _, j + 1, .cons (A := A) h q => by
      obtain ⟨A', o, l⟩ := OwnL.erase j q
      exact ⟨A ++ A', .cons h o, (Less.refl A).app l⟩
theorem OwnL.getI : ∀ {xs : List V} {ts : List T} {A : List Addr} {j : Nat} {t : T}, OwnL K F H xs ts A → ts[j]? = some t → ∃ x B, xs[j]? = some x ∧ Own K F H x t B ∧ B.Sublist A
  | _, _, _, _, _, .nil, e => by simp at e
  | _, _, _, 0, _, .cons (A := A) h q, e => by simp at e; subst e; exact ⟨_, A, rfl, h, List.sublist_append_left _ _⟩
  | _, _, _, j + 1, _, .cons (A := A) h q, e => by
      obtain ⟨x, B, e1, o, s⟩ := OwnL.getI (j := j) q (by simpa using e)
      exact ⟨x, B, by simpa using e1, o, s.trans (List.sublist_append_right _ _)⟩
end

section
variable {K : PySem.W.Frag} {B F0 F F' H H' : Hp} {ρ ρ' st : Rho} {σ σ' vst : St} {v y : V} {d : D} {t t1 r u u' : T} {i : Nat} {ts ts' : List T} {us : List T} {ws : List V}
/-- THE WRITE: the owned object of slot i, the things at the head used up for it; t is what the slot holds, ts its parts -/
theorem Rl.writeG (Sh : HO → List V → Prop) (h : Rl K B F0 (us.map some ++ ρ) (ws.map some ++ σ) H) (hl : ws.length = us.length) (hi : ρ[i]? = some (some t1)) (ht : t1 = t ∨ ∃ a, t1 = .at_ a t) (hna : ∀ a u, t ≠ .at_ a u)
    (hin : ∀ {F H : Hp} {v : V} {A : List Addr}, Own K F H v t A → ∃ a o xs C, v = .ref a ∧ A = a :: C ∧ H a = some o ∧ OwnL K F H xs ts C ∧ Sh o xs) :
    ∃ (a : Addr) (o : HO) (xs : List V), σ[i]? = some (some (.ref a)) ∧ H a = some o ∧ Sh o xs ∧ xs.length = ts.length ∧
      (∀ {j : Nat} {d : D}, ts[j]? = some (.v d) → ∃ w, xs[j]? = some w ∧ Rl K B F0 (some (.v d) :: ρ) (some w :: σ) H) ∧
      ∀ (o' : HO) (xs' : List V) (ts' : List T) (t' : T), (∀ (F H' : Hp) (A' : List Addr), H' a = some o' → OwnL K F H' xs' ts' A' → Own K F H' (.ref a) t' (a :: A')) → (∀ (F H' : Hp) (A B : List Addr), OwnL K F H' xs ts A → OwnL K F H' ws us B → ∃ A', OwnL K F H' xs' ts' A' ∧ Less A' (A ++ B)) → Rl K B F0 (ρ.set i (some (reT t1 t'))) σ (upd H a o') := by
  obtain ⟨F, A, e0, e1, e2, dm, o, nd, fr⟩ := h
  obtain ⟨A1, A2, rfl, o1, o2⟩ := o.split (by simpa using hl)
  obtain ⟨v, B1, B2, B3, e3, rfl, o5, kk, _⟩ := o2.at hi
  have o1' := OwnS.toL o1
  obtain ⟨a, ev, ob, xs, C, hC, ha, hx, hsh, hat⟩ : ∃ a, v = .ref a ∧ ∃ ob xs C, B2 = a :: C ∧ H a = some ob ∧ OwnL K F H xs ts C ∧ Sh ob xs ∧ ∀ a', t1 = .at_ a' t → a' = a := by
    rcases ht with rfl | ⟨a', rfl⟩
    · obtain ⟨a, ob, xs, C, z1, z2, z3, z4, z5⟩ := hin o5
      exact ⟨a, z1, ob, xs, C, z2, z3, z4, z5, fun a' e => absurd e (hna _ _)⟩
    · cases o5 with
      | at_ h1 =>
        obtain ⟨a, ob, xs, C, z1, z2, z3, z4, z5⟩ := hin h1
        cases z1
        exact ⟨_, rfl, ob, xs, C, z2, z3, z4, z5, fun a'' e => by cases e; rfl⟩
  subst ev
  subst hC
  obtain ⟨n1, n2, n3⟩ := List.nodup_append.mp nd
  obtain ⟨n4, n5, n6⟩ := List.nodup_append.mp n2
  obtain ⟨n7, n8, n9⟩ := List.nodup_append.mp n5
  obtain ⟨n10, n11⟩ := List.nodup_cons.mp n7
  refine ⟨a, ob, xs, e3, ha, hsh, hx.len, fun {j d} hj => ?_, fun o' xs' ts' t' hmk hop => ?_⟩
  · obtain ⟨w, Bw, hw, ow, _⟩ := hx.getI hj
    cases ow with
    | v hd => exact ⟨w, hw, F, _, e0, e1, e2, dm, OwnS.cons (A := []) (.v hd) o2, n2, fun b hb => fr b (List.mem_append_right _ hb)⟩
  · have ne : ∀ b, b ∈ A1 ++ (C ++ (B1 ++ B3)) → b ≠ a := fun b hb e => by
      subst e
      simp only [List.mem_append] at hb
      rcases hb with z | z | z | z
      · exact n3 b z b (by simp) rfl
      · exact n10 z
      · exact n6 b z b (by simp) rfl
      · exact n9 b (by simp) b z rfl
    have kp : ∀ b, b ≠ a → ∀ w, H b = some w → upd H a o' b = some w := fun b hb w hw => by rw [upd_ne hb]; exact hw
    obtain ⟨A', oL, ls⟩ := hop F (upd H a o') C A1 (hx.mono (Same.refl _) fun b hb w hw => kp b (ne b (by simp [hb])) w hw) (o1'.mono (Same.refl _) fun b hb w hw => kp b (ne b (by simp [hb])) w hw)
    have o6 : Own K F (upd H a o') (.ref a) (reT t1 t') (a :: A') := by
      rcases ht with rfl | ⟨a', rfl⟩
      · have : reT t1 t' = t' := by
          cases t1 <;> first | rfl | exact absurd rfl (hna _ _)
        rw [this]
        exact hmk F _ A' upd_same oL
      · have ea := hat a' rfl
        subst ea
        exact .at_ (hmk F _ A' upd_same oL)
    have es : σ.set i (some (.ref a)) = σ := set_self e3
    have o7 := kk F (upd H a o') (.ref a) (reT t1 t') (a :: A') (Same.refl _) (fun b hb w hw => kp b (ne b (by
      simp only [List.mem_append] at hb ⊢
      rcases hb with z | z <;> simp [z])) w hw) o6
    rw [es] at o7
    have fa := fr a (by simp)
    have less : Less (B1 ++ ((a :: A') ++ B3)) (A1 ++ (B1 ++ (a :: C ++ B3))) := by
      have l1 : Less (B1 ++ ((a :: A') ++ B3)) (B1 ++ ((a :: (C ++ A1)) ++ B3)) := (Less.refl B1).app ((ls.cons a).app (Less.refl B3))
      refine l1.trans (Less.of_perm ?_)
      have p1 : ((a :: (C ++ A1)) ++ B3).Perm (A1 ++ (a :: C ++ B3)) := by
        have : (a :: (C ++ A1)).Perm (A1 ++ (a :: C)) := by
          have := List.perm_append_comm (l₁ := a :: C) (l₂ := A1)
          simpa using this
        have := this.append_right B3
        simpa [List.append_assoc] using this
      have p2 := p1.append_left B1
      refine p2.trans ?_
      have := List.Perm.append_right (a :: C ++ B3) (List.perm_append_comm (l₁ := B1) (l₂ := A1))
      simpa [List.append_assoc] using this
    have lk : ∀ b, b ≠ a → ∀ w, Lkd H b w → Lkd (upd H a o') b w := fun b hb w ⟨o9, kvs, e9, q⟩ => ⟨o9, kvs, e9, kp b hb _ q⟩
    refine ⟨F, _, e0, fun b w hw => ?_, fun b w hw => ?_, dm, o7, less.nodup nd, fun b hb => fr b (less.mem hb)⟩
    · by_cases hb : b = a
      · rw [hb, fa.1] at hw; cases hw
      · exact (e1 b w hw).imp (kp b hb w) (lk b hb w)
    · by_cases hb : b = a
      · rw [hb, fa.2] at hw; cases hw
      · exact (e2 b w hw).imp (kp b hb w) (fun q => ⟨q.1, lk b hb w q.2⟩)
theorem Rl.write (h : Rl K B F0 (us.map some ++ ρ) (ws.map some ++ σ) H) (hl : ws.length = us.length) (hi : ρ[i]? = some (some t1)) (ht : t1 = .lst ts ∨ ∃ a, t1 = .at_ a (.lst ts)) :
    ∃ (a : Addr) (xs : List V), σ[i]? = some (some (.ref a)) ∧ H a = some (.lst xs) ∧ xs.length = ts.length ∧
      (∀ {j : Nat} {d : D}, ts[j]? = some (.v d) → ∃ w, xs[j]? = some w ∧ Rl K B F0 (some (.v d) :: ρ) (some w :: σ) H) ∧
      ∀ (xs' : List V) (ts' : List T), (∀ (F H' : Hp) (A B : List Addr), OwnL K F H' xs ts A → OwnL K F H' ws us B → ∃ A', OwnL K F H' xs' ts' A' ∧ Less A' (A ++ B)) → Rl K B F0 (ρ.set i (some (reT t1 (.lst ts')))) σ (upd H a (.lst xs')) := by
  obtain ⟨a, o, xs, h1, h2, h3, h4, h5, h6⟩ := h.writeG (fun o xs => o = .lst xs) hl hi ht (fun _ _ e => by cases e) (ts := ts) (fun {F H v A} ow => by
    cases ow with
    | lst z1 z2 => exact ⟨_, _, _, _, rfl, rfl, z1, z2, rfl⟩)
  subst h3
  exact ⟨a, xs, h1, h2, h4, h5, fun xs' ts' hop => h6 (.lst xs') xs' ts' (.lst ts') (fun F H' A' e o => .lst e o) hop⟩
/-- an append to the list at the head of the stack -/
theorem Rl.push1 {a : Addr} (h : Rl K B F0 (some r :: some (.lst ts) :: ρ) (some y :: some (.ref a) :: σ) H) : ∃ xs, H a = some (.lst xs) ∧ xs.length = ts.length ∧ Rl K B F0 (some (.lst (ts ++ [r])) :: ρ) (some (.ref a) :: σ) (upd H a (.lst (xs ++ [y]))) := by
  have h' : Rl K B F0 ([r].map some ++ (some (.lst ts) :: ρ)) ([y].map some ++ (some (.ref a) :: σ)) H := h
  obtain ⟨a', xs, e1, e2, e3, _, k⟩ := h'.write (i := 0) rfl rfl (.inl rfl)
  simp at e1
  subst e1
  refine ⟨xs, e2, e3, ?_⟩
  exact k (xs ++ [y]) (ts ++ [r]) fun F H' A B o1 o2 => ⟨A ++ B, o1.append o2, Less.refl _⟩
end

/-! ### statements that change a list -/
section
variable {X : Cx} {e a b c o : Expr} {es rest : List Expr} {ρ ρ1 ρ2 ρ3 : Rho} {d x y z : D} {r t t1 : T} {ts : List T} {ds : List D} {pos p p2 apos cpos : Pos} {i j k : Nat} {bo bo' : Bool} {f xa : Str} {R : Pr} {xn : Xn} {Z : Outs}
theorem tyV_of {K : PySem.W.Frag} {H : Hp} {a : Addr} {xs : List V} (h : H a = some (.lst xs)) : tyV K "list" (.ref a) H := Or.inl ⟨rfl, _, SqL.of h⟩
/-- xs.append(e), xs the owned list of slot i -/
theorem s_append {pa : Pos} (i : Nat) {t0 : T} (he : Ev X e ρ r ρ1) (hi0 : ρ[i]? = some (some t0)) (ht0 : (∃ us, t0 = .lst us) ∨ ∃ a us, t0 = .at_ a (.lst us)) (hi : ρ1[i]? = some (some t1)) (ht : t1 = .lst ts ∨ ∃ a, t1 = .at_ a (.lst ts)) (hz : ts.length < 100000) (h : Z.nx (ρ1.set i (some (reT t1 (.lst (ts ++ [r])))))) (hN : X.N[i]? = some xa := by rfl) (hv : Vis X.env.scope xa := by first | exact Or.inl rfl | exact Or.inr (Or.inl rfl) | exact Or.inr (Or.inr rfl))
    (hd1 : (xa == ("__debug__" : Str)) = false := by decide) (hcd : (xa == ("__classdict__" : Str)) = false := by decide)
    (hbase : attributeBase (.Name xa pa) "append" X.env (eval (.Name xa pa) X.env) = eval (.Name xa pa) X.env := by rfl)
    (hfew : ((backTo cpos (starEach [e] X.env)).all (fun x => !x.1) && (backToKw cpos (keywordEach [] X.env)).all (fun x => x.1.isSome) && decide (([e] : List Expr).length + ([] : List Keyword).length + (if ([] : List Keyword).isEmpty then 0 else 1) < 30)) = true := by rfl)
    (hs : starEach [e] X.env = (false, eval e X.env) :: starEach [] X.env := by rfl) (hsw : swapsWith (.Call (.Attribute (.Name xa pa) "append" apos) [e] [] cpos) none pos.line X.env = pure false := by rfl) (hline : (apos.endLine == cpos.line) = true := by rfl) :
    S1 X (.Expr (.Call (.Attribute (.Name xa pa) "append" apos) [e] [] cpos) pos) ρ Z :=
  s1_of (ps_expr (pe_bm PySem.F.plainAttrs_list PySem.F.slot_list_append PySem.F.type_list_append mt_append (pe_var hN hv hd1 hcd) (pa_cons (pe_u X e) pa_nil hs) hbase hfew hline hs (by rfl)) hsw) fun B F0 σ H De Wx tk R m => by
    obtain ⟨v, F, A, e1, ow, eF, _⟩ := Rl.slot (st := []) (vst := []) R rfl hi0
    have ty : tyV X.K "list" v H := by
      rcases ht0 with ⟨us, rfl⟩ | ⟨a, us, rfl⟩
      · cases ow with
        | lst h1 _ => exact tyV_of h1
      · cases ow with
        | at_ ow =>
          cases ow with
          | lst h1 _ => exact tyV_of h1
    refine ⟨v, e1, ty, he B F0 [] [] σ H _ rfl R fun u H1 R1 => ?_⟩
    have R1' : Rl X.K B F0 ([r].map some ++ ρ1) ([u].map some ++ σ) H1 := R1
    obtain ⟨a, xs, e2, e3, e4, _, k⟩ := R1'.write (i := i) rfl hi ht
    rw [e1] at e2
    cases e2
    refine ⟨a, xs, u, rfl, rfl, e3, by rw [e4, sizeLine_eq]; omega, m.nx _ σ _ h ?_⟩
    exact k (xs ++ [u]) (ts ++ [r]) fun F H' A B o1 o2 => ⟨A ++ B, o1.append o2, Less.refl _⟩
end
end Vl
end
section
set_option maxRecDepth 100000
namespace Vl
open PySem L2

/-! ### dicts that are walked -/
/-- what frz does to what is known, taken back -/
def Unf (F F' : Hp) : Prop := ∀ a u, F a = some u → F' a = some u ∨ ∃ o kvs, u = .frz o (.dK kvs) ∧ F' a = some (.dK kvs)
mutual
theorem Den.unf {K : PySem.W.Frag} {F F' : Hp} (e : Unf F F') {v : V} {d : D} : Den K F v d → Den K F' v d
  | .non => .non
  | .bl b => .bl b
  | .int i => .int i
  | .str x => .str x
  | .ty n => .ty n
  | .ref a => .ref a
  | .tup h q => .tup (by
      rcases e _ _ h with z | ⟨o, kvs, z, _⟩
      · exact z
      · cases z) (DenL.unf e q)
  | .lst h q => .lst (by
      rcases h with (h | ⟨o, h⟩) | h
      · rcases e _ _ h with z | ⟨o, kvs, z, _⟩
        · exact .inl (.inl z)
        · cases z
      · rcases e _ _ h with z | ⟨o, kvs, z, _⟩
        · exact .inl (.inr ⟨_, z⟩)
        · cases z
      · exact .inr h) (DenL.unf e q)
  | .dic h k q => .dic (by
      rcases h with h | ⟨o, h⟩
      · rcases e _ _ h with z | ⟨o, kvs, z, _⟩
        · exact .inl z
        · cases z
      · rcases e _ _ h with z | ⟨o, kvs, z, z2⟩
        · exact .inr ⟨_, z⟩
        · cases z; exact .inl z2) k (DenL.unf e q)
  | .dit h k q => .dit (by
      rcases h with h | ⟨o, h⟩
      · rcases e _ _ h with z | ⟨o, kvs, z, _⟩
        · exact .inl z
        · cases z
      · rcases e _ _ h with z | ⟨o, kvs, z, z2⟩
        · exact .inr ⟨_, z⟩
        · cases z) k (DenL.unf e q)
  | .obj h k q => .obj (by
      rcases e _ _ h with z | ⟨o, kvs, z, _⟩
      · exact z
      · cases z) k (DenL.unf e q)
theorem DenL.unf {K : PySem.W.Frag} {F F' : Hp} (e : Unf F F') {xs : List V} {ds : List D} : DenL K F xs ds → DenL K F' xs ds
  | .nil => .nil
  | .cons h q => .cons (Den.unf e h) (DenL.unf e q)
end
mutual
theorem Own.monoD {K : PySem.W.Frag} {F F' H H' : Hp} (e : ∀ v d, Den K F v d → Den K F' v d) {v : V} {t : T} {A : List Addr} (k : ∀ a ∈ A, ∀ o, H a = some o → H' a = some o) : Own K F H v t A → Own K F' H' v t A
  | .v h => .v (e _ _ h)
  | .at_ h => .at_ (Own.monoD e k h)
  | .lst h q => .lst (k _ List.mem_cons_self _ h) (OwnL.monoD e (fun a ha => k a (List.mem_cons_of_mem _ ha)) q)
  | .dic h z q => .dic (k _ List.mem_cons_self _ h) z (OwnL.monoD e (fun a ha => k a (List.mem_cons_of_mem _ ha)) q)
  | .dit h z q => .dit (k _ List.mem_cons_self _ h) z (OwnL.monoD e (fun a ha => k a (List.mem_cons_of_mem _ ha)) q)
  | .obj h z q => .obj (k _ List.mem_cons_self _ h) z (OwnL.monoD e (fun a ha => k a (List.mem_cons_of_mem _ ha)) q)
theorem OwnL.monoD {K : PySem.W.Frag} {F F' H H' : Hp} (e : ∀ v d, Den K F v d → Den K F' v d) {xs : List V} {ts : List T} {A : List Addr} (k : ∀ a ∈ A, ∀ o, H a = some o → H' a = some o) : OwnL K F H xs ts A → OwnL K F' H' xs ts A
  | .nil => .nil
  | .cons h q => .cons (Own.monoD e (fun a ha => k a (List.mem_append_left _ ha)) h) (OwnL.monoD e (fun a ha => k a (List.mem_append_right _ ha)) q)
end
theorem OwnS.monoD {K : PySem.W.Frag} {F F' H H' : Hp} {vs : St} {ts : Rho} {A : List Addr} (e : ∀ v d, Den K F v d → Den K F' v d) (h : OwnS K F H vs ts A) : (∀ a ∈ A, ∀ o, H a = some o → H' a = some o) → OwnS K F' H' vs ts A := by
  induction h with
  | nil => intro _; exact .nil
  | skip _ ih => intro k; exact .skip (ih k)
  | cons h _ ih => intro k; exact .cons (h.monoD e fun a ha => k a (List.mem_append_left _ ha)) (ih fun a ha => k a (List.mem_append_right _ ha))

structure Back (K : PySem.W.Frag) (B F0 B1 F1 : Hp) : Prop where
  rl : ∀ ρ' σ' H', Rl K B1 F1 ρ' σ' H' → Rl K B F0 ρ' σ' H'
  ex : ∀ F' ρ' σ' H' x cls d, RlF K B1 F1 F' ρ' σ' H' → XDen K F' x cls d → ∃ F'', RlF K B F0 F'' ρ' σ' H' ∧ XDen K F'' x cls d
structure Turns (K : PySem.W.Frag) (J : It) (B1 F1 : Hp) (n : Nat) (item : Nat → D) : Prop where
  go : ∀ B' F' i ρ' σ' H', Same F1 F' → i < n → Rl K B' F' ρ' σ' H' → J.go i H' ∧ ∀ x H2, J.yld i H' x H2 → Rl K B' F' (some (.v (item i)) :: ρ') (some x :: σ') H2
  stop : ∀ B' F' i ρ' σ' H', Same F1 F' → n ≤ i → Rl K B' F' ρ' σ' H' → J.stop i H'
theorem Back.of {K : PySem.W.Frag} {B F0 F : Hp} {ρ : Rho} {σ : St} {H : Hp} (h : RlF K B F0 F ρ σ H) : Back K B F0 B F := ⟨fun ρ' σ' H' R => h.reL R, fun F' ρ' σ' H' x cls d R hx => ⟨F', h.re R, hx⟩⟩
theorem Back.refl {K : PySem.W.Frag} {B F0 : Hp} : Back K B F0 B F0 := ⟨fun ρ' σ' H' R => R, fun F' ρ' σ' H' x cls d R hx => ⟨F', R, hx⟩⟩

section
variable {K : PySem.W.Frag} {B F0 F F' H H' : Hp} {ρ ρ' st : Rho} {σ σ' vst : St} {v y : V} {d : D}
/-- a dict that is known is locked: the state in which it is so, and the way back -/
theorem RlF.lockd {a : Addr} {kvs : List (Key × V)} {o : Obj} (h : RlF K B F0 F ρ σ H) (hF : F a = some (.dK kvs)) (h0 : H a = some (.dK kvs) ∨ H a = some (.frz o (.dK kvs))) (hH : H' a = some (.frz o (.dK kvs))) (hk : ∀ b, b ≠ a → H' b = H b) :
    ∃ B1 F1, Rl K B1 F1 ρ σ H' ∧ F1 a = some (.frz o (.dK kvs)) ∧ (∀ v d, Den K F v d → Den K F1 v d) ∧ Back K B F0 B1 F1 := by
  classical
  obtain ⟨A, e0, e1, e2, dm, os, nd, fr⟩ := h
  let F1 : Hp := upd F a (.frz o (.dK kvs))
  let B1 : Hp := fun b => if b = a then (B a).map fun _ => .frz o (.dK kvs) else B b
  have b1 : ∀ b, b ≠ a → B1 b = B b := fun b hb => if_neg hb
  have b2 : B1 a = (B a).map fun _ => .frz o (.dK kvs) := if_pos rfl
  have dF : ∀ v d, Den K F v d → Den K F1 v d := fun v d hd => hd.sub fun b u z => by
    by_cases hb : b = a
    · subst hb
      rw [hF] at z; cases z
      exact .inr ⟨o, kvs, rfl, upd_same⟩
    · exact .inl (by show upd F a _ b = _; rw [upd_ne hb]; exact z)
  have na : ∀ b ∈ A, b ≠ a := fun b hb z => by subst z; rw [(fr _ hb).1] at hF; cases hF
  have wy : ∀ {F2 : Hp} {ρ2 : Rho} {σ2 : St} {H2 : Hp}, RlF K B1 F1 F2 ρ2 σ2 H2 → RlF K B F0 (upd F2 a (.dK kvs)) ρ2 σ2 H2 ∧ Unf F2 (upd F2 a (.dK kvs)) := fun {F2 ρ2 σ2 H2} R2 => by
    obtain ⟨A2, f0, f1, f2, dm2, os2, nd2, fr2⟩ := R2
    have hF2 : F2 a = some (.frz o (.dK kvs)) := f0 a _ upd_same
    have hH2 : H2 a = some (.frz o (.dK kvs)) := by
      rcases f1 a _ hF2 with z | ⟨_, _, z, _⟩
      · exact z
      · cases z
    have un : Unf F2 (upd F2 a (.dK kvs)) := fun b u z => by
      by_cases hb : b = a
      · subst hb
        rw [hF2] at z; cases z
        exact .inr ⟨o, kvs, rfl, upd_same⟩
      · exact .inl (by rw [upd_ne hb]; exact z)
    refine ⟨⟨A2, fun b u z => ?_, fun b u z => ?_, fun b u z => ?_, fun b u z => ?_, os2.monoD (fun v d hd => hd.unf un) (fun _ _ _ z => z), nd2, fun b hb => ?_⟩, un⟩
    · by_cases hb : b = a
      · subst hb
        rw [upd_same]
        have := e0 b u z
        rw [hF] at this
        exact this
      · rw [upd_ne hb]
        exact f0 b u (by show upd F a _ b = _; rw [upd_ne hb]; exact e0 b u z)
    · by_cases hb : b = a
      · subst hb
        rw [upd_same] at z; cases z
        exact .inr ⟨o, kvs, rfl, hH2⟩
      · rw [upd_ne hb] at z
        exact f1 b u z
    · by_cases hb : b = a
      · subst hb
        have hu : u = .dK kvs ∨ u = .frz o (.dK kvs) := by
          rcases e2 b u z with q | ⟨q, _⟩
          · rcases h0 with w | w
            · rw [w] at q; cases q; exact .inl rfl
            · rw [w] at q; cases q; exact .inr rfl
          · rw [hF] at q; cases q; exact .inl rfl
        rcases hu with rfl | rfl
        · exact .inr ⟨upd_same, o, kvs, rfl, hH2⟩
        · exact .inl hH2
      · rcases f2 b u (by rw [b1 b hb]; exact z) with q | ⟨q, q2⟩
        · exact .inl q
        · exact .inr ⟨by rw [upd_ne hb]; exact q, q2⟩
    · by_cases hb : b = a
      · subst hb
        exact dm b _ hF
      · rw [upd_ne hb] at z
        rcases dm2 b u z with ⟨u', z'⟩ | z'
        · have : F b = some u' := by
            have w : upd F a (.frz o (.dK kvs)) b = some u' := z'
            rw [upd_ne hb] at w; exact w
          exact dm b u' this
        · rw [b1 b hb] at z'; exact .inr z'
    · have q := fr2 b hb
      have hba : b ≠ a := fun z => by rw [z, hF2] at q; cases q.1
      rw [upd_ne hba]
      exact ⟨q.1, by rw [← b1 b hba]; exact q.2⟩
  refine ⟨B1, F1, ⟨F1, A, Same.refl _, fun b u z => ?_, fun b u z => ?_, fun b u z => .inl ⟨u, z⟩, os.monoD dF fun b hb u z => by rw [hk b (na b hb)]; exact z, nd, fun b hb => ?_⟩, upd_same, dF, ⟨fun ρ' σ' H2 R => ?_, fun F' ρ' σ' H2 x cls d R hx => ?_⟩⟩
  · by_cases hb : b = a
    · subst hb
      have z' : upd F b (.frz o (.dK kvs)) b = some u := z
      rw [upd_same] at z'; cases z'
      exact .inl hH
    · have z' : upd F a (.frz o (.dK kvs)) b = some u := z
      rw [upd_ne hb] at z'
      rcases e1 b u z' with q | ⟨o', kvs', q1, q2⟩
      · exact .inl (by rw [hk b hb]; exact q)
      · exact .inr ⟨o', kvs', q1, by rw [hk b hb]; exact q2⟩
  · by_cases hb : b = a
    · subst hb
      rw [b2] at z
      cases hB : B b with
      | none => rw [hB] at z; cases z
      | some u' => rw [hB] at z; cases z; exact .inl hH
    · rw [b1 b hb] at z
      rcases e2 b u z with q | ⟨q, o', kvs', q1, q2⟩
      · exact .inl (by rw [hk b hb]; exact q)
      · exact .inr ⟨by show upd F a _ b = _; rw [upd_ne hb]; exact q, o', kvs', q1, by rw [hk b hb]; exact q2⟩
  · have q := fr b hb
    have hba := na b hb
    exact ⟨by show upd F a _ b = _; rw [upd_ne hba]; exact q.1, by rw [b1 b hba]; exact q.2⟩
  · obtain ⟨F2, R⟩ := R
    exact ⟨_, (wy R).1⟩
  · obtain ⟨w1, w2⟩ := wy R
    refine ⟨_, w1, hx.1, ?_⟩
    rcases hx.2 with q | ⟨dd, vs, q1, q2, q3, q4⟩
    · exact .inl q
    · refine .inr ⟨dd, vs, q1, ?_, q3, q4.unf w2⟩
      rcases w2 dd _ q2 with z | ⟨_, _, z, _⟩
      · exact z
      · cases z
end
end Vl
end
section
set_option maxRecDepth 100000
namespace Vl
open PySem L2

/-! ### what is walked -/
def Iter (X : Cx) (tg it : Expr) (ρ ρ1 : Rho) (n : Nat) (item : Nat → D) : Prop := ∃ wi : TI, PI X tg it wi ∧ ∀ (B F0 : Hp) (st : Rho) (vst σ : St) (H : Hp) (Rk : It → Hp → Prop), vst.length = st.length → Rl X.K B F0 (st ++ ρ) (vst ++ σ) H →
  (∀ J B1 F1 H1, Rl X.K B1 F1 (st ++ ρ1) (vst ++ σ) H1 → Turns X.K J B1 F1 n item → Back X.K B F0 B1 F1 → Rk J H1) → wi σ H Rk
def kD : Key → D
  | .inl i => .int i
  | .inr x => .str x
theorem kD_den {K : PySem.W.Frag} {F : Hp} (k : Key) : Den K F (kV k) (kD k) := by cases k with
  | inl i => exact .int i
  | inr x => exact .str x
/-- a dict, locked as it comes -/
def LkP (H1 : Hp) (x : V) (Q : V → Hp → Prop) : Prop := ∃ d, x = .ref d ∧ ((∃ o u, H1 d = some (.frz o u) ∧ Q x H1) ∨ ∃ u, H1 d = some u ∧ Mut (some u) ∧ ∀ od, Q x (upd H1 d (.frz od u)))
def tLk (t : TE) : TE := fun σ H Q => t σ H fun x H1 => LkP H1 x Q
theorem pe_lk {X : Cx} {e : Expr} {t : TE} (h : PE X e t) : PE X e (tLk t) := ⟨fun pins s σ H Q I hw => thn (h.run pins s σ H _ I hw) fun v s1 ⟨x, H1, I1, r, d, ex, q⟩ => by
  rcases q with ⟨o, u, hd, q⟩ | ⟨u, hd, mu, q⟩
  · exact ⟨x, H1, I1, r, q⟩
  · obtain ⟨od, I2⟩ := I1.lock hd mu
    exact ⟨x, _, I2, r, q od⟩⟩
section
variable {X : Cx} {tg it e a b c elt : Expr} {es rest : List Expr} {ρ ρ1 ρ2 ρ3 : Rho} {d x y z : D} {r t : T} {ts : List T} {ds : List D} {kvs : List (Key × D)} {pos p p2 apos cpos : Pos} {i k n : Nat} {item : Nat → D} {bo bo' : Bool} {f : Str}
theorem Iter.eq {item' : Nat → D} (h : Iter X tg it ρ ρ1 n item) (e : ∀ i, i < n → item i = item' i) : Iter X tg it ρ ρ1 n item' := by
  obtain ⟨wi, h1, h2⟩ := h
  refine ⟨wi, h1, fun B F0 st vst σ H Rk hl R k => h2 B F0 st vst σ H Rk hl R fun J B1 F1 H1 R1 T Bk => k J B1 F1 H1 R1 ⟨fun B' F' i ρ' σ' H' sm hi R' => ?_, T.stop⟩ Bk⟩
  rw [← e i hi]; exact T.go B' F' i ρ' σ' H' sm hi R'
theorem it_list (he : Ev X it ρ (.v (.lst ds)) ρ1) : Iter X tg it ρ ρ1 ds.length (fun i => ds.getD i .non) := ⟨_, pi_list (pe_u X it), fun B F0 st vst σ H Rk hl R k => he B F0 st vst σ H _ hl R fun v H1 R1 => by
  obtain ⟨F, RF, hd⟩ := R1.elimF
  cases hd with
  | @lst a xs _ hq q =>
    have sq : ∀ {B' F' ρ' σ' H'}, Same F F' → Rl X.K B' F' ρ' σ' H' → SqL X.K H' a xs := fun {B' F' ρ' σ' H'} sm R' => R'.same.sqL (sqL_ex sm hq)
    refine ⟨a, rfl, ⟨xs, sq (Same.refl _) RF.self.rl⟩, k _ B F H1 RF.self.rl ⟨fun B' F' i ρ' σ' H' sm hi R' => ?_, fun B' F' i ρ' σ' H' sm hi R' => ⟨xs, sq sm R', by rw [q.length]; exact hi⟩⟩ (Back.of RF)⟩
    have hlt : i < xs.length := by rw [q.length]; exact hi
    refine ⟨⟨xs, xs[i], sq sm R', List.getElem?_eq_getElem hlt⟩, ?_⟩
    rintro x H2 ⟨rfl, hx⟩
    obtain ⟨d, h1, h2⟩ := q.get' (hx xs (sq sm R'))
    have : ds.getD i .non = d := by rw [List.getD_eq_getElem?_getD, h1]; rfl
    rw [this]
    exact R'.pushF (h2.mono sm)⟩
theorem it_tup (he : Ev X it ρ (.v (.tup ds)) ρ1) : Iter X tg it ρ ρ1 ds.length (fun i => ds.getD i .non) := ⟨_, pi_tup (pe_u X it), fun B F0 st vst σ H Rk hl R k => he B F0 st vst σ H _ hl R fun v H1 R1 => by
  obtain ⟨F, RF, hd⟩ := R1.elimF
  cases hd with
  | @tup a xs _ hq q =>
    have sq : ∀ {B' F' ρ' σ' H'}, Same F F' → Rl X.K B' F' ρ' σ' H' → SqT X.K H' a xs := fun {B' F' ρ' σ' H'} sm R' => SqT.of (R'.same.t (sm a _ hq))
    refine ⟨a, rfl, ⟨xs, sq (Same.refl _) RF.self.rl⟩, k _ B F H1 RF.self.rl ⟨fun B' F' i ρ' σ' H' sm hi R' => ?_, fun B' F' i ρ' σ' H' sm hi R' => ⟨xs, sq sm R', by rw [q.length]; exact hi⟩⟩ (Back.of RF)⟩
    have hlt : i < xs.length := by rw [q.length]; exact hi
    refine ⟨⟨xs, xs[i], sq sm R', List.getElem?_eq_getElem hlt⟩, ?_⟩
    rintro x H2 ⟨rfl, hx⟩
    obtain ⟨d, h1, h2⟩ := q.get' (hx xs (sq sm R'))
    have : ds.getD i .non = d := by rw [List.getD_eq_getElem?_getD, h1]; rfl
    rw [this]
    exact R'.pushF (h2.mono sm)⟩
theorem turns_range {K : PySem.W.Frag} {B F : Hp} (lo : Int) (n : Nat) : Turns K (Itr lo n) B F n (fun i => .int (lo + (i : Int))) := ⟨fun B' F' i ρ' σ' H' sm hi R' => ⟨hi, fun x H2 ⟨h1, h2⟩ => by subst h1; subst h2; exact R'.pushS fun _ => .int _⟩, fun B' F' i ρ' σ' H' sm hi R' => hi⟩
theorem it_range1 {nn : Int} (ha : EvA X [a] ρ [.v (.int nn)] ρ1) (hz : nn ≤ 2 ^ 40) (hz2 : -(2 ^ 40) ≤ nn) (hm : X.mg "range" = none) (hg : Gl X "range" := by rfl) (he : starEach [a] X.env = [(false, eval a X.env)] := by rfl) :
    Iter X tg (.Call (.Name "range" p) [a] [] pos) ρ ρ1 nn.toNat (fun i => .int (i : Int)) := Iter.eq (item := fun i => .int (0 + (i : Int))) ⟨_, pi_range1 hg hm (pa_u X [a]) he, fun B F0 st vst σ H Rk hl R k => ha B F0 st vst σ H _ hl R fun vs H1 hl1 R1 => by
  match vs, hl1 with
  | [v], _ =>
    have R2 : Rl X.K B F0 (some (.v (.int nn)) :: (st ++ ρ1)) (some v :: (vst ++ σ)) H1 := R1
    exact ⟨nn, by rw [R2.headI], by omega, by omega, k _ B F0 H1 R2.drop (turns_range 0 _) Back.refl⟩⟩ (fun i _ => by rw [Int.zero_add])
theorem it_range2 {lo hi : Int} (ha : EvA X [a, b] ρ [.v (.int lo), .v (.int hi)] ρ1) (hz : -(2 ^ 40) ≤ lo ∧ lo ≤ 2 ^ 40 ∧ -(2 ^ 40) ≤ hi ∧ hi ≤ 2 ^ 40) (hm : X.mg "range" = none) (hg : Gl X "range" := by rfl) (he : starEach [a, b] X.env = [(false, eval a X.env), (false, eval b X.env)] := by rfl) (he2 : starEach [b] X.env = [(false, eval b X.env)] := by rfl) :
    Iter X tg (.Call (.Name "range" p) [a, b] [] pos) ρ ρ1 (hi - lo).toNat (fun i => .int (lo + (i : Int))) := ⟨_, pi_range2 hg hm (pa_u X [a, b]) he he2, fun B F0 st vst σ H Rk hl R k => ha B F0 st vst σ H _ hl R fun vs H1 hl1 R1 => by
  match vs, hl1 with
  | [v, u], _ =>
    have R2 : Rl X.K B F0 (some (.v (.int lo)) :: some (.v (.int hi)) :: (st ++ ρ1)) (some v :: some u :: (vst ++ σ)) H1 := R1
    exact ⟨lo, hi, by rw [R2.headI, R2.drop.headI], by omega, k _ B F0 H1 R2.drop.drop (turns_range lo _) Back.refl⟩⟩
theorem it_str {w : Str} (he : Ev X it ρ (.v (.str w)) ρ1) : Iter X tg it ρ ρ1 w.cps.size (fun i => .str ⟨#[w.cps.getD i 0]⟩) := ⟨_, pi_str (pe_u X it), fun B F0 st vst σ H Rk hl R k => he B F0 st vst σ H _ hl R fun v H1 R1 =>
  ⟨w, R1.headS, k _ B F0 H1 R1.drop ⟨fun B' F' i ρ' σ' H' sm hi R' => ⟨hi, fun x H2 ⟨h1, cc, h2, h3⟩ => by
    subst h1; subst h3
    have : w.cps.getD i 0 = cc := by simp [Array.getD, hi] at h2 ⊢; exact h2
    rw [this]
    exact R'.pushS fun _ => .str _⟩, fun B' F' i ρ' σ' H' sm hi R' => hi⟩ Back.refl⟩⟩
/-- what a dict that is locked gives -/
theorem lock_any {K : PySem.W.Frag} {B F0 H1 : Hp} {ρ : Rho} {σ : St} {v : V} {Q : V → Hp → Prop} (R1 : Rl K B F0 (some (.v (.dic kvs)) :: ρ) (some v :: σ) H1)
    (k : ∀ d o ks B1 F1 H2, v = .ref d → Rl K B1 F1 ρ σ H2 → F1 d = some (.frz o (.dK ks)) → ks.map (·.1) = kvs.map (·.1) → DenL K F1 (ks.map (·.2)) (kvs.map (·.2)) → Back K B F0 B1 F1 → Q v H2) :
    LkP H1 v Q := by
  obtain ⟨F, RF, hd⟩ := R1.elimF
  cases hd with
  | @dic a ks _ hq hk q =>
    refine ⟨a, rfl, ?_⟩
    have dm : ∀ {F1 : Hp}, (∀ v d, Den K F v d → Den K F1 v d) → DenL K F1 (ks.map (·.2)) (kvs.map (·.2)) := fun {F1} h => by
      have : ∀ {xs : List V} {ds : List D}, DenL K F xs ds → DenL K F1 xs ds := fun {xs ds} g => by
        induction xs generalizing ds with
        | nil => cases g; exact .nil
        | cons x xs ih => cases g with | cons g1 g2 => exact .cons (h _ _ g1) (ih g2)
      exact this q
    rcases hq with hF | ⟨o, hF⟩
    · have hsub := (id RF : RlF K B F0 F ρ σ H1)
      obtain ⟨A, e0, e1, _⟩ := hsub
      rcases e1 a _ hF with z | ⟨o, kvs', z1, z2⟩
      · refine .inr ⟨_, z, trivial, fun od => ?_⟩
        obtain ⟨B1, F1, R2, h1, h2, bk⟩ := RF.lockd (o := od) (H' := upd H1 a (.frz od (.dK ks))) hF (.inl z) upd_same (fun b hb => upd_ne hb)
        exact k a od ks B1 F1 _ rfl R2 h1 hk (dm h2) bk
      · cases z1
        obtain ⟨B1, F1, R2, h1, h2, bk⟩ := RF.lockd (o := o) (H' := H1) hF (.inr z2) z2 (fun b hb => rfl)
        exact .inl ⟨o, _, z2, k a o ks B1 F1 _ rfl R2 h1 hk (dm h2) bk⟩
    · have hH : H1 a = some (.frz o (.dK ks)) := by
        obtain ⟨A, e0, e1, _⟩ := id RF
        rcases e1 a _ hF with z | ⟨_, _, z, _⟩
        · exact z
        · cases z
      exact .inl ⟨o, _, hH, k a o ks B F H1 rfl RF.self.rl hF hk q (Back.of RF)⟩
theorem Rl.frzAt {K : PySem.W.Frag} {B F0 H : Hp} {ρ : Rho} {σ : St} {a : Addr} {o : Obj} {ks : List (Key × V)} (R : Rl K B F0 ρ σ H) (h : F0 a = some (.frz o (.dK ks))) : H a = some (.frz o (.dK ks)) := by
  rcases R.same a _ h with z | ⟨_, _, z, _⟩
  · exact z
  · cases z
theorem keys_get {ks : List (Key × V)} {kvs : List (Key × D)} (hk : ks.map (·.1) = kvs.map (·.1)) {i : Nat} {k : Key} {v : V} (h : ks[i]? = some (k, v)) : ∃ d, kvs[i]? = some (k, d) := by
  have h1 : (ks.map (·.1))[i]? = some k := by rw [List.getElem?_map, h]; rfl
  rw [hk, List.getElem?_map] at h1
  cases hx : kvs[i]? with
  | none => rw [hx] at h1; simp at h1
  | some p => rw [hx] at h1; simp at h1; subst h1; exact ⟨p.2, rfl⟩
theorem it_values (he : Ev X e ρ (.v (.dic kvs)) ρ1) (hbase : attributeBase e "values" X.env (eval e X.env) = eval e X.env := by rfl) (hline : (apos.endLine == cpos.line) = true := by rfl) :
    Iter X tg (.Call (.Attribute e "values" apos) [] [] cpos) ρ ρ1 kvs.length (fun i => (kvs.map (·.2)).getD i .non) := ⟨_, pi_values (pe_lk (pe_u X e)) hbase hline, fun B F0 st vst σ H Rk hl R k => he B F0 st vst σ H _ hl R fun v H1 R1 =>
  by
    refine lock_any R1 ?_
    intro d o ks B1 F1 H2 ev R2 h1 hk q bk
    have hlen : ks.length = kvs.length := by have := congrArg List.length hk; simpa using this
    refine ⟨d, o, ks, ev, R2.frzAt h1, k _ B1 F1 H2 R2 ⟨fun B' F' i ρ' σ' H' sm hi R' => ⟨⟨R'.frzAt (sm _ _ h1), by omega⟩, ?_⟩, fun B' F' i ρ' σ' H' sm hi R' => ⟨R'.frzAt (sm _ _ h1), by omega⟩⟩ bk⟩
    rintro x H3 ⟨rfl, key, hx⟩
    have hx2 : (ks.map (·.2))[i]? = some x := by rw [List.getElem?_map, hx]; rfl
    obtain ⟨d', g1, g2⟩ := q.get' hx2
    have : (kvs.map (·.2)).getD i .non = d' := by rw [List.getD_eq_getElem?_getD, g1]; rfl
    rw [this]
    exact R'.pushF (g2.mono sm)⟩
theorem it_items {elts : List Expr} {kk : Nat} {tpos : Pos} (he : Ev X e ρ (.v (.dic kvs)) ρ1) (hbase : attributeBase e "items" X.env (eval e X.env) = eval e X.env := by rfl) (hline : (apos.endLine == cpos.line) = true := by rfl) :
    Iter X (.Tuple elts kk tpos) (.Call (.Attribute e "items" apos) [] [] cpos) ρ ρ1 kvs.length (fun i => .tup (match kvs[i]? with | some p => [kD p.1, p.2] | none => [])) := ⟨_, pi_items (pe_lk (pe_u X e)) hbase hline, fun B F0 st vst σ H Rk hl R k => he B F0 st vst σ H _ hl R fun v H1 R1 =>
  by
    refine lock_any R1 ?_
    intro d o ks B1 F1 H2 ev R2 h1 hk q bk
    have hlen : ks.length = kvs.length := by have := congrArg List.length hk; simpa using this
    refine ⟨d, o, ks, ev, R2.frzAt h1, k _ B1 F1 H2 R2 ⟨fun B' F' i ρ' σ' H' sm hi R' => ⟨⟨R'.frzAt (sm _ _ h1), by omega⟩, ?_⟩, fun B' F' i ρ' σ' H' sm hi R' => ⟨R'.frzAt (sm _ _ h1), by omega⟩⟩ bk⟩
    rintro x H3 ⟨TT, key, w, hx, rfl, hT, rfl⟩
    obtain ⟨d', g0⟩ := keys_get hk hx
    have hx2 : (ks.map (·.2))[i]? = some w := by rw [List.getElem?_map, hx]; rfl
    obtain ⟨d2, g1, g2⟩ := q.get' hx2
    rw [List.getElem?_map, g0] at g1
    cases g1
    rw [g0]
    have R3 : Rl X.K B' F' (([kD key, d'].map fun d => some (T.v d)) ++ ρ') ([kV key, w].map some ++ σ') H' := (R'.pushF (g2.mono sm)).pushF (kD_den key)
    exact R3.newTup rfl hT⟩
theorem it_keys (he : Ev X it ρ (.v (.dic kvs)) ρ1) : Iter X tg it ρ ρ1 kvs.length (fun i => (kvs.map fun p => kD p.1).getD i .non) := ⟨_, pi_keys (pe_lk (pe_u X it)), fun B F0 st vst σ H Rk hl R k => he B F0 st vst σ H _ hl R fun v H1 R1 =>
  by
    refine lock_any R1 ?_
    intro d o ks B1 F1 H2 ev R2 h1 hk q bk
    have hlen : ks.length = kvs.length := by have := congrArg List.length hk; simpa using this
    refine ⟨d, o, ev, .inl ⟨ks, R2.frzAt h1, k _ B1 F1 H2 R2 ⟨fun B' F' i ρ' σ' H' sm hi R' => ⟨⟨R'.frzAt (sm _ _ h1), by omega⟩, ?_⟩, fun B' F' i ρ' σ' H' sm hi R' => ⟨R'.frzAt (sm _ _ h1), by omega⟩⟩ bk⟩⟩
    rintro x H3 ⟨rfl, key, w, hx, rfl⟩
    obtain ⟨d', g0⟩ := keys_get hk hx
    have : (kvs.map fun p => kD p.1).getD i .non = kD key := by rw [List.getD_eq_getElem?_getD, List.getElem?_map, g0]; rfl
    rw [this]
    exact R'.pushS fun _ => kD_den key⟩
end
section
variable {X : Cx} {tg it e a b c elt : Expr} {es rest : List Expr} {ρ ρ1 ρ2 ρ3 : Rho} {d x y z : D} {r t : T} {ts : List T} {ds : List D} {pos p p2 apos cpos : Pos} {i k n : Nat} {item : Nat → D} {bo bo' : Bool} {f : Str} {Z : Outs} {body : List Stmt}
/-- for target in ..: I i ahead of the turn i -/
theorem s_for (I : Nat → Rho → Prop) (g : Gd X) (hit : Iter X tg it ρ ρ1 n item) (h0 : I 0 ρ1) (hs : ∀ i ρ', i < n → I i ρ' → ∃ ρ2, Tg X tg (item i) ρ' ρ2 ∧ S X body ρ2 { Z with nx := I (i + 1), ct := I (i + 1), bk := Z.nx })
    (hd : ∀ ρ', I n ρ' → Z.nx ρ') (hfs : ∀ x, foldedSetIterable it X.env x = pure x := by intro _; rfl) : S1 X (.For tg it body [] pos) ρ Z := by
  obtain ⟨wi, hpi, hw⟩ := hit
  refine s1_of (ps_for g.own g.calm hpi (pg_u X tg) (pss_u X body) hfs) fun B F0 σ H De Wx tk R m => hw B F0 [] [] σ H _ rfl R fun J B1 F1 H1 R1 Tn bk => ?_
  refine ⟨fun i k σ' H' => k = n - i ∧ i ≤ n ∧ ∃ ρ', I i ρ' ∧ Rl X.K B1 F1 ρ' σ' H', ⟨_, rfl, Nat.zero_le _, ρ1, h0, R1⟩, ?_⟩
  rintro i k σ' H' ⟨rfl, hle, ρ', hI, R'⟩
  by_cases hlt : i < n
  · obtain ⟨g1, g2⟩ := Tn.go B1 F1 i ρ' σ' H' (Same.refl _) hlt R'
    refine .inr ⟨g1, fun σ2 H2 => ∃ ρ2, I (i + 1) ρ2 ∧ Rl X.K B1 F1 ρ2 σ2 H2, fun σ2 H2 h => ⟨n - (i + 1), by omega, rfl, by omega, h⟩, fun w H2 hy => ?_⟩
    obtain ⟨ρ2, ht, hb⟩ := hs i ρ' hlt hI
    exact ht B1 F1 σ' H2 w _ (g2 w H2 hy) fun σ2 H3 R2 => hb B1 F1 σ2 H3 _ Wx tk R2 ⟨fun ρ σ H h R => ⟨ρ, h, R⟩, fun r ρ v σ H h R => m.rt r ρ v σ H h (bk.rl _ _ _ R), fun ρ σ H h R => m.nx ρ σ H h (bk.rl _ _ _ R), fun ρ σ H h R => ⟨ρ, h, R⟩, fun x ρ cls d F' σ H h R hx => by
      obtain ⟨F2, R2, hx2⟩ := bk.ex F' _ _ _ x cls d R hx
      exact m.ex x ρ cls d F2 σ H h R2 hx2⟩
  · have e : i = n := by omega
    subst e
    exact .inl ⟨Tn.stop B1 F1 i ρ' σ' H' (Same.refl _) (Nat.le_refl _) R', m.nx ρ' σ' H' (hd ρ' hI) (bk.rl _ _ _ R')⟩
end

/-! ### comprehensions -/
def wipeR (ρ : Rho) : List Nat → Rho
  | [] => ρ
  | v :: vs => (wipeR ρ vs).set v none
def Clean (ρ : Rho) (vs : List Nat) : Prop := ∀ j ∈ vs, ∀ t, ρ[j]? ≠ some (some t)
theorem wipeR_get {ρ : Rho} : ∀ {vs : List Nat} {j : Nat} {t : T}, (wipeR ρ vs)[j]? = some (some t) → ρ[j]? = some (some t) ∧ j ∉ vs
  | [], j, t, h => ⟨h, by simp⟩
  | v :: vs, j, t, h => by
    unfold wipeR at h
    by_cases e : j = v
    · subst e
      by_cases hl : j < (wipeR ρ vs).length
      · rw [List.getElem?_set_self hl] at h; cases h
      · rw [List.getElem?_eq_none_iff.mpr (by rw [List.length_set]; exact Nat.not_lt.mp hl)] at h; cases h
    · rw [List.getElem?_set_ne (Ne.symm e)] at h
      obtain ⟨h1, h2⟩ := wipeR_get h
      exact ⟨h1, by simp [e, h2]⟩
theorem wipeR_clean (ρ : Rho) (vs : List Nat) : Clean (wipeR ρ vs) vs := fun j hj t h => (wipeR_get h).2 hj
section
variable {K : PySem.W.Frag} {B F0 F H : Hp} {ρ st : Rho} {σ σ' vst : St}
theorem OwnS.alter {ts : Rho} {vs : St} {A : List Addr} (h : OwnS K F H vs ts A) : ∀ {vs' : St}, vs'.length = vs.length → (∀ (j : Nat) (t : T), ts[j]? = some (some t) → vs'[j]? = vs[j]?) → OwnS K F H vs' ts A := by
  induction h with
  | nil =>
    intro vs' hl _
    cases vs' with
    | nil => exact .nil
    | cons _ _ => simp at hl
  | @skip x vs ts A _ ih =>
    intro vs' hl hk
    cases vs' with
    | nil => simp at hl
    | cons y vs' => exact .skip (ih (by simpa using hl) fun j t e => by simpa using hk (j + 1) t (by simpa using e))
  | @cons v t vs ts A A' h1 _ ih =>
    intro vs' hl hk
    cases vs' with
    | nil => simp at hl
    | cons y vs' =>
      have e0 := hk 0 t rfl
      simp at e0
      subst e0
      exact .cons h1 (ih (by simpa using hl) fun j t e => by simpa using hk (j + 1) t (by simpa using e))
theorem Rl.alter (h : Rl K B F0 (st ++ ρ) (vst ++ σ) H) (hl : vst.length = st.length) (hs : σ'.length = σ.length) (hk : ∀ (j : Nat) (t : T), (ρ : List (Option T))[j]? = some (some t) → σ'[j]? = σ[j]?) : Rl K B F0 (st ++ ρ) (vst ++ σ') H := by
  obtain ⟨F, A, e0, e1, e2, dm, o, nd, fr⟩ := h
  obtain ⟨A1, A2, rfl, o1, o2⟩ := o.split hl
  exact ⟨F, _, e0, e1, e2, dm, o1.append (o2.alter hs hk), nd, fr⟩
theorem wipe_get {vs : List Nat} {j : Nat} (h : j ∉ vs) : (wipe σ vs)[j]? = σ[j]? := by
  induction vs with
  | nil => rfl
  | cons v vs ih =>
    unfold wipe
    rw [List.getElem?_set_ne (fun e => h (by simp [e])), ih (fun e => h (by simp [e]))]
theorem Rl.wipeOn {vs : List Nat} (h : Rl K B F0 (st ++ ρ) (vst ++ σ) H) (hl : vst.length = st.length) (hc : Clean ρ vs) : Rl K B F0 (st ++ ρ) (vst ++ wipe σ vs) H :=
  h.alter hl (wipe_length σ vs) fun j t e => wipe_get fun hj => hc j hj t e
theorem Rl.wipeOff {vs : List Nat} (h : Rl K B F0 (st ++ ρ) (vst ++ wipe σ vs) H) (hl : vst.length = st.length) (hc : Clean ρ vs) : Rl K B F0 (st ++ ρ) (vst ++ σ) H :=
  h.alter hl (wipe_length σ vs).symm fun j t e => (wipe_get fun hj => hc j hj t e).symm
theorem Rl.forget (j : Nat) (h : Rl K B F0 (st ++ ρ) (vst ++ σ) H) (hl : vst.length = st.length) : Rl K B F0 (st ++ ρ.set j none) (vst ++ σ.set j none) H := by
  obtain ⟨F, A, e0, e1, e2, dm, o, nd, fr⟩ := h
  obtain ⟨A1, A2, rfl, o1, o2⟩ := o.split hl
  by_cases hj : j < ρ.length
  · cases hx : ρ[j]? with
    | none => exact absurd hj (Nat.not_lt.mpr (List.getElem?_eq_none_iff.mp hx))
    | some x =>
      cases x with
      | none =>
        have e : ρ.set j none = ρ := set_self hx
        rw [e]
        exact ⟨F, _, e0, e1, e2, dm, o1.append (o2.alter (by simp) fun i t ei => by
          have : i ≠ j := fun z => by subst z; rw [hx] at ei; cases ei
          rw [List.getElem?_set_ne (Ne.symm this)]), nd, fr⟩
      | some t =>
        obtain ⟨v, B1, B2, B3, _, rfl, _, _, k⟩ := o2.at hx
        have sub : List.Sublist (A1 ++ (B1 ++ B3)) (A1 ++ (B1 ++ (B2 ++ B3))) := List.Sublist.append (List.Sublist.refl _) (List.Sublist.append (List.Sublist.refl _) (List.sublist_append_right _ _))
        exact ⟨F, _, e0, e1, e2, dm, o1.append (k none), nd.sublist sub, fun a ha => fr a (sub.subset ha)⟩
  · have h1 : ρ.set j none = ρ := List.set_eq_of_length_le (Nat.not_lt.mp hj)
    have h2 : σ.set j none = σ := List.set_eq_of_length_le (by rw [o2.len]; exact Nat.not_lt.mp hj)
    rw [h1, h2]
    exact ⟨F, _, e0, e1, e2, dm, o1.append o2, nd, fr⟩
theorem Rl.forgetN (h : Rl K B F0 (st ++ ρ) (vst ++ σ) H) (hl : vst.length = st.length) : ∀ vs : List Nat, Rl K B F0 (st ++ wipeR ρ vs) (vst ++ wipe σ vs) H
  | [] => h
  | v :: vs => Rl.forget v (Rl.forgetN h hl vs) hl
theorem wipe_comm {vs : List Nat} : ∀ {σ : St} {j : Nat} {x : Option V}, j ∈ vs → wipe (σ.set j x) vs = wipe σ vs := by
  induction vs with
  | nil => intro σ j x h; cases h
  | cons v vs ih =>
    intro σ j x h
    unfold wipe
    by_cases hj : j ∈ vs
    · rw [ih hj]
    · have e : j = v := by simpa [hj] using h
      subst e
      have : ∀ {us : List Nat}, j ∉ us → wipe (σ.set j x) us = (wipe σ us).set j x := by
        intro us
        induction us with
        | nil => intro _; rfl
        | cons u us ih2 =>
          intro hu
          unfold wipe
          rw [ih2 (fun z => hu (by simp [z])), List.set_comm _ _ (fun z => hu (by simp [z]))]
      rw [this hj, List.set_set]
end
/-- a target in a comprehension's block -/
def TgK (X : Cx) (vs : List Nat) (tg : Expr) (d : D) (ρ ρ' : Rho) : Prop := ∀ (B F0 : Hp) (st : Rho) (vst σ : St) (H : Hp) (v : V) (Q : St → Hp → Prop), vst.length = st.length → Rl X.K B F0 (some (.v d) :: (st ++ ρ)) (some v :: (vst ++ σ)) H →
  (∀ σ' H', Rl X.K B F0 (st ++ ρ') (vst ++ σ') H' → wipe σ' vs = wipe σ vs → Q σ' H') → ∃ g, PG X tg g ∧ g v σ H Q
def TgKs (X : Cx) (vs : List Nat) (tgs : List Expr) (ds : List D) (ρ ρ' : Rho) : Prop := ∀ (B F0 : Hp) (st : Rho) (vst σ : St) (H : Hp) (us : List V) (Q : St → Hp → Prop), vst.length = st.length → Rl X.K B F0 (st ++ ρ) (vst ++ σ) H → DenL X.K F0 us ds →
  (∀ σ' H', Rl X.K B F0 (st ++ ρ') (vst ++ σ') H' → wipe σ' vs = wipe σ vs → Q σ' H') → ∃ g, PGs X tgs g ∧ g us σ H Q
section
variable {X : Cx} {tg : Expr} {tgs : List Expr} {vs : List Nat} {d : D} {ds : List D} {ρ ρ1 ρ2 : Rho} {pos : Pos}
theorem Rl.setSt {K : PySem.W.Frag} {B F0 H : Hp} {ρ st : Rho} {σ vst : St} {t : T} {v : V} (j : Nat) (h : Rl K B F0 (some t :: (st ++ ρ)) (some v :: (vst ++ σ)) H) (hl : vst.length = st.length) : Rl K B F0 (st ++ ρ.set j (some t)) (vst ++ σ.set j (some v)) H := by
  have h1 := h.setS (i := st.length + j)
  rw [List.set_append_right _ _ (by omega), List.set_append_right _ _ (by omega)] at h1
  have e1 : st.length + j - st.length = j := by omega
  have e2 : st.length + j - vst.length = j := by omega
  rw [e1, e2] at h1
  exact h1
theorem tgk_name {x : Str} (j : Nat) (hN : X.N.Nodup) (hj : j ∈ vs := by simp) (hi : X.N[j]? = some x := by rfl) (hx : Loc X.env.scope x := by first | exact Or.inl rfl | exact Or.inr rfl) (hf : X.fn x = true ∨ X.env.scope.names.lookup x = some .local := by first | exact .inl rfl | exact .inr rfl) :
    TgK X vs (.Name x pos) d ρ (ρ.set j (some (.v d))) := fun B F0 st vst σ H v Q hl R k => ⟨_, pg_name hN hi hx hf, k _ H (R.setSt j hl) (wipe_comm hj)⟩
theorem tgks_nil : TgKs X vs [] [] ρ ρ := fun B F0 st vst σ H us Q hl R hd k => ⟨_, pgs_nil, by cases hd; rfl, k σ H R rfl⟩
theorem tgks_cons (h1 : TgK X vs tg d ρ ρ1) (h2 : TgKs X vs tgs ds ρ1 ρ2) (hs : (assignEach (tg :: tgs) X.env).map (·.2) = assign tg X.env :: (assignEach tgs X.env).map (·.2) := by rfl) : TgKs X vs (tg :: tgs) (d :: ds) ρ ρ2 := fun B F0 st vst σ H us Q hl R hd k => by
  cases hd with
  | @cons v _ vs' _ q1 q2 =>
    exact ⟨_, pgs_cons (pg_u X tg) (pgs_u X tgs) hs, v, vs', rfl, h1 B F0 st vst σ H v _ hl (R.pushF q1) fun σ1 H1 R1 w1 => h2 B F0 st vst σ1 H1 vs' Q hl R1 q2 fun σ2 H2 R2 w2 => k σ2 H2 R2 (w2.trans w1)⟩
theorem tgk_tup {kx : Nat} (hc : X.calm = true) (h : TgKs X vs tgs ds ρ ρ1) (hl : ds.length = tgs.length) (hn : (assignEach tgs X.env).length = tgs.length := by rfl) (hst : (assignEach tgs X.env).findIdx? (·.1) = none := by rfl) : TgK X vs (.Tuple tgs kx pos) (.tup ds) ρ ρ1 := fun B F0 st vst σ H v Q hl2 R k => by
  obtain ⟨F, R1, hd⟩ := R.elimF
  cases hd with
  | tup hq q =>
    exact ⟨_, pg_tup hc (pgs_u X tgs) hn hst, _, _, rfl, SqT.of (R1.self.rl.same.t hq), by rw [q.length, hl], h B F st vst σ H _ Q hl2 R1.self.rl q fun σ' H' R' w => k σ' H' (R1.reL R') w⟩
end
/-- the tests of a comprehension -/
def TsV (X : Cx) (ifs : List Expr) (ρ : Rho) (b : Bool) (ρ' : Rho) : Prop := ∀ (B F0 : Hp) (st : Rho) (vst σ : St) (H : Hp) (Q : Bool → Hp → Prop), vst.length = st.length → Rl X.K B F0 (st ++ ρ) (vst ++ σ) H → (∀ H', Rl X.K B F0 (st ++ ρ') (vst ++ σ) H' → Q b H') → ∃ t, PTs X ifs t ∧ t σ H Q
theorem ts_nil {X : Cx} {ρ : Rho} : TsV X [] ρ true ρ := fun B F0 st vst σ H Q hl R k => ⟨_, pts_nil, k H R⟩
theorem ts_one {X : Cx} {c : Expr} {ρ ρ1 : Rho} {b : Bool} (h : Tv X c ρ b ρ1) : TsV X [c] ρ b ρ1 := fun B F0 st vst σ H Q hl R k => ⟨_, pts_one (pt_u X c), h B F0 st vst σ H Q hl R k⟩
section
variable {X : Cx} {tg it elt : Expr} {ifs : List Expr} {scope : Scope} {own : List (Str × Nat)} {ρ ρ1 ρF : Rho} {n : Nat} {item : Nat → D} {pos : Pos} {accF : List T}
abbrev gBk (X : Cx) (scope : Scope) (tg : Expr) : TG := fun v σ H Q => ∀ s H' C cl fp, tG (X.blk s H' scope (compEnvC scope cl C X.env) fp) tg v σ H Q
abbrev tBk (X : Cx) (scope : Scope) (ifs : List Expr) : TT := fun σ H Q => ∀ s H' C cl fp, ∃ t, PTs (X.blk s H' scope (compEnvC scope cl C X.env) fp) ifs t ∧ t σ H Q
abbrev eBk (X : Cx) (scope : Scope) (elt : Expr) : TE := fun σ H Q => ∀ s H' C cl fp, tE (X.blk s H' scope (compEnvC scope cl C X.env) fp) elt σ H Q
theorem pg_bk (X : Cx) (scope : Scope) (tg : Expr) : ∀ (s : Shared) (H : Hp) (C : Addr) (cl : List (Str × Addr)) (fp : List Addr), PG (X.blk s H scope (compEnvC scope cl C X.env) fp) tg (gBk X scope tg) := fun s H' C cl fp => ⟨fun pins s σ H v u Q I r h => (pg_u _ tg).run pins s σ H v u Q I r (h _ _ _ _ _)⟩
theorem pts_bk (X : Cx) (scope : Scope) (ifs : List Expr) : ∀ (s : Shared) (H : Hp) (C : Addr) (cl : List (Str × Addr)) (fp : List Addr), PTs (X.blk s H scope (compEnvC scope cl C X.env) fp) ifs (tBk X scope ifs) := fun s H' C cl fp => ⟨fun pins s σ H Q I h => let ⟨t, p, q⟩ := h _ _ _ _ _; p.run pins s σ H Q I q⟩
theorem pe_bk (X : Cx) (scope : Scope) (elt : Expr) : ∀ (s : Shared) (H : Hp) (C : Addr) (cl : List (Str × Addr)) (fp : List Addr), PE (X.blk s H scope (compEnvC scope cl C X.env) fp) elt (eBk X scope elt) := fun s H' C cl fp => ⟨fun pins s σ H Q I h => (pe_u _ elt).run pins s σ H Q I (h _ _ _ _ _)⟩
/-- what a block's turns have to keep -/
abbrev LcTurn (X : Cx) (scope : Scope) (tg elt : Expr) (ifs : List Expr) (own : List (Str × Nat)) (n : Nat) (item : Nat → D) (I : Nat → Rho → List T → Prop) : Prop :=
  ∀ i ρ' acc, i < n → I i ρ' acc → ∃ ρ2 bo ρ3, (∀ s H C cl fp, TgK (X.blk s H scope (compEnvC scope cl C X.env) fp) (own.map Prod.snd) tg (item i) ρ' ρ2) ∧ (∀ s H C cl fp, TsV (X.blk s H scope (compEnvC scope cl C X.env) fp) ifs ρ2 bo ρ3) ∧
      (bo = true → ∃ r ρ4, (∀ s H C cl fp, Ev (X.blk s H scope (compEnvC scope cl C X.env) fp) elt ρ3 r ρ4) ∧ I (i + 1) (wipeR ρ4 (own.map Prod.snd)) (acc ++ [r])) ∧ (bo = false → I (i + 1) (wipeR ρ3 (own.map Prod.snd)) acc)
theorem lc_run {wi : TI} (own : List (Str × Nat)) (I : Nat → Rho → List T → Prop) (hw : ∀ (B F0 : Hp) (st : Rho) (vst σ : St) (H : Hp) (Rk : It → Hp → Prop), vst.length = st.length → Rl X.K B F0 (st ++ ρ) (vst ++ σ) H →
      (∀ J B1 F1 H1, Rl X.K B1 F1 (st ++ ρ1) (vst ++ σ) H1 → Turns X.K J B1 F1 n item → Back X.K B F0 B1 F1 → Rk J H1) → wi σ H Rk)
    (hc : Clean ρ1 (own.map Prod.snd)) (h0 : I 0 ρ1 []) (hs : LcTurn X scope tg elt ifs own n item I)
    (hd : ∀ ρ' acc, I n ρ' acc → acc = accF ∧ ρ' = ρF) (hz : n ≤ 100000) (B F0 : Hp) (st : Rho) (vst σ : St) (H : Hp) (Q : VK) (hl : vst.length = st.length) (R : Rl X.K B F0 (st ++ ρ) (vst ++ σ) H)
    (k : ∀ v H', Rl X.K B F0 (some (.lst accF) :: (st ++ ρF)) (some v :: (vst ++ σ)) H' → Q v H') : tLc wi (gBk X scope tg) (tBk X scope ifs) (eBk X scope elt) (own.map Prod.snd) σ H Q := by
  refine hw B F0 st vst σ H _ hl R fun J B1 F1 H1 R1 Tn bk Dl hD => ?_
  have hls : (some (V.ref Dl) :: vst).length = (some (T.lst []) :: st).length := by simp [hl]
  have Rst : Rl X.K B1 F1 (some (T.lst []) :: (st ++ ρ1)) (some (V.ref Dl) :: (vst ++ wipe σ (own.map Prod.snd))) (upd H1 Dl (.lst [])) := (Rl.wipeOn (vs := own.map Prod.snd) R1 hl hc).newLst (ts := []) (vs := []) rfl hD
  refine ⟨fun i m H' => m = n - i ∧ i ≤ n ∧ ∃ ρ' acc, I i ρ' acc ∧ acc.length ≤ i ∧ Clean ρ' (own.map Prod.snd) ∧ Rl X.K B1 F1 (some (T.lst acc) :: (st ++ ρ')) (some (V.ref Dl) :: (vst ++ wipe σ (own.map Prod.snd))) H', ⟨n, by omega, Nat.zero_le _, ρ1, [], h0, Nat.le_refl _, hc, Rst⟩, ?_⟩
  rintro i m H' ⟨rfl, hle, ρ', acc, hI, hla, hcl, R'⟩
  have hls' : (some (V.ref Dl) :: vst).length = (some (T.lst acc) :: st).length := by simp [hl]
  by_cases hlt : i < n
  · obtain ⟨g1, g2⟩ := Tn.go B1 F1 i _ _ H' (Same.refl _) hlt R'
    refine .inr ⟨g1, fun H2 => ∃ ρ' acc, I (i + 1) ρ' acc ∧ acc.length ≤ i + 1 ∧ Clean ρ' (own.map Prod.snd) ∧ Rl X.K B1 F1 (some (T.lst acc) :: (st ++ ρ')) (some (V.ref Dl) :: (vst ++ wipe σ (own.map Prod.snd))) H2, fun H2 h => ⟨n - (i + 1), by omega, rfl, by omega, h⟩, fun w H2 hy => ?_⟩
    obtain ⟨ρ2, bo, ρ3, ht, hts, hy1, hy0⟩ := hs i ρ' acc hlt hI
    have Rw := g2 w H2 hy
    -- the target
    intro s' Hs C cl fp
    refine ht s' Hs C cl fp B1 F1 (some (T.lst acc) :: st) (some (V.ref Dl) :: vst) (wipe σ (own.map Prod.snd)) H2 w _ hls' Rw fun σ2 H3 R2 wq => ?_
    have wq' : wipe σ2 (own.map Prod.snd) = wipe σ (own.map Prod.snd) := by
      rw [wq]
      have : ∀ (vs us : List Nat), (∀ x ∈ us, x ∈ vs) → wipe (wipe σ us) vs = wipe σ vs := by
        intro vs us
        induction us with
        | nil => intro _; rfl
        | cons u us ih =>
          intro h
          show wipe ((wipe σ us).set u none) vs = _
          rw [wipe_comm (h u (by simp)), ih fun x hx => h x (by simp [hx])]
      exact this _ _ fun x hx => hx
    refine ⟨wq', ?_⟩
    intro s2 Hs2 C2 cl2 fp2
    refine hts s2 Hs2 C2 cl2 fp2 B1 F1 (some (T.lst acc) :: st) (some (V.ref Dl) :: vst) σ2 H3 _ hls' R2 fun H4 R3 => ?_
    cases bo with
    | true =>
      obtain ⟨r, ρ4, hev, hI'⟩ := hy1 rfl
      refine iteT ?_
      intro s3 Hs3 C3 cl3 fp3
      refine hev s3 Hs3 C3 cl3 fp3 B1 F1 (some (T.lst acc) :: st) (some (V.ref Dl) :: vst) σ2 H4 _ hls' R3 fun y H5 R4 => ?_
      obtain ⟨xs, e1, e2, R5⟩ := Rl.push1 R4
      refine ⟨xs, e1, by rw [e2, sizeLine_eq]; omega, _, acc ++ [r], hI', by simp; omega, wipeR_clean _ _, ?_⟩
      have R6 := Rl.forgetN (st := some (T.lst (acc ++ [r])) :: st) (vst := some (V.ref Dl) :: vst) R5 (by simp [hl]) (own.map Prod.snd)
      rw [wq'] at R6
      exact R6
    | false =>
      refine iteF ⟨_, acc, hy0 rfl, by omega, wipeR_clean _ _, ?_⟩
      have R6 := Rl.forgetN (st := some (T.lst acc) :: st) (vst := some (V.ref Dl) :: vst) R3 hls' (own.map Prod.snd)
      rw [wq'] at R6
      exact R6
  · have e : i = n := by omega
    subst e
    obtain ⟨rfl, rfl⟩ := hd ρ' acc hI
    exact .inl ⟨Tn.stop B1 F1 i _ _ H' (Same.refl _) (Nat.le_refl _) R', k _ H' (bk.rl _ _ _ (Rl.wipeOff (st := some (T.lst acc) :: st) (vst := some (V.ref Dl) :: vst) R' hls' hcl))⟩
/-- [elt for target in .. if ..]: I i ρ acc ahead of the turn i, acc what is made so far -/
theorem ev_lc (own : List (Str × Nat)) (I : Nat → Rho → List T → Prop) (g : Gd X) (hit : Iter X tg it ρ ρ1 n item) (ok : BlkOk X.N X.env.scope scope own) (hc : Clean ρ1 (own.map Prod.snd)) (h0 : I 0 ρ1 [])
    (hs : LcTurn X scope tg elt ifs own n item I)
    (hd : ∀ ρ' acc, I n ρ' acc → acc = accF ∧ ρ' = ρF) (hz : n ≤ 100000) (hfs : ∀ x, foldedSetIterable it X.env x = pure x := by intro _; rfl) : Ev X (.ListComp elt [⟨tg, it, ifs, 0⟩] scope pos) ρ (.lst accF) ρF := by
  obtain ⟨wi, hpi, hw⟩ := hit
  exact ev_of (pe_lc (own := own) g.calm g.nd hpi ok (pg_bk X scope tg) (pts_bk X scope ifs) (pe_bk X scope elt) hfs) fun B F0 st vst σ H Q hl R k => lc_run own I hw hc h0 hs hd hz B F0 st vst σ H Q hl R k
/-- name = [elt for target in .. if ..] -/
theorem s_setLc {y : Str} {py spos : Pos} {Z : Outs} (j : Nat) (own : List (Str × Nat)) (I : Nat → Rho → List T → Prop) (g : Gd X) (hit : Iter X tg it ρ ρ1 n item) (ok : BlkOk X.N X.env.scope scope own) (hc : Clean ρ1 (own.map Prod.snd)) (h0 : I 0 ρ1 [])
    (hs : LcTurn X scope tg elt ifs own n item I)
    (hd : ∀ ρ' acc, I n ρ' acc → acc = accF ∧ ρ' = ρF) (hz : n ≤ 100000) (h : Z.nx (ρF.set j (some (.lst accF)))) (hN : X.N[j]? = some y := by rfl) (hyl : X.env.scope.names.lookup y = some .local := by rfl)
    (hsw : swapsWith (.ListComp elt [⟨tg, it, ifs, 0⟩] scope pos) (some (.Name y py)) spos.line X.env = pure true := by rfl) (hfs : ∀ x, foldedSetIterable it X.env x = pure x := by intro _; rfl) : S1 X (.Assign [.Name y py] (.ListComp elt [⟨tg, it, ifs, 0⟩] scope pos) spos) ρ Z := by
  obtain ⟨wi, hpi, hw⟩ := hit
  exact s1_of (ps_setLc (own := own) g.calm g.nd hN hyl hsw hpi ok (pg_bk X scope tg) (pts_bk X scope ifs) (pe_bk X scope elt) hfs) fun B F0 σ H De Wx tk R m => lc_run own I hw hc h0 hs hd hz B F0 [] [] σ H _ rfl R fun v H1 R1 => m.nx _ _ H1 h (Rl.setS R1)
end
end Vl
end
section
set_option maxRecDepth 100000
set_option maxHeartbeats 2000000
/-! sets of tuples whose items are ints and texts -/
namespace Vl
open PySem PySem.Spec PyProof.Rows L2

section
variable {P : Program} {w : World} {A : Around} {E : Value → Shared → Prop} {s : Shared} {k : List Key} {b : Addr}

/-- the tuple at b is the key k -/
def isK (P : Program) (w : World) (h : Heap) (k : List Key) (b : Addr) : Prop := IsTupleKey (mixKind P w) h k b
def hsK (P : Program) (w : World) (k : List Key) : Int := tupleKeyHash (mixKind P w) k
theorem leafs {vs : List Value} (h : ItemsAre (mixKind P w) k vs) : ∀ v ∈ vs, (∀ n, ofAClassStatement n v = pure false) ∧ ∀ n, ∃ c, hashByValue n v = pure c := by
  induction h with
  | nil => exact fun v hv => absurd hv (by simp)
  | cons h1 _ ih =>
    intro v hv
    cases hv with
    | tail _ hv => exact ih v hv
    | head =>
      rcases keyIs_shape h1 with ⟨i, t, _, rfl⟩ | ⟨x, t, _, rfl⟩
      · exact ⟨fun n => by cases n <;> rfl, fun n => ⟨true, by cases n <;> rfl⟩⟩
      · exact ⟨fun n => by cases n <;> rfl, fun n => ⟨false, by cases n <;> rfl⟩⟩
/-- a turn after the other leaves a question open as it was -/
theorem ask_each {α : Type} {z : Option α × PUnit} {f : Value → Option α × PUnit → Sem (ForInStep (Option α × PUnit))} {Q : Option α × PUnit → Shared → Prop} : ∀ (vs : List Value), (∀ v ∈ vs, f v z = pure (.yield z)) → Q z s → wpAny (model P w) A (forIn vs z f) Q E s
  | [], _, q => wpAny_pure q
  | v :: vs, h, q => by
    rw [List.forIn_cons, h v (by simp)]
    exact wpAny_bind (wpAny_pure (ask_each vs (fun u hu => h u (by simp [hu])) q))
theorem ask_until {α : Type} {z z' : Option α × PUnit} {f : Value → Option α × PUnit → Sem (ForInStep (Option α × PUnit))} {Q : Option α × PUnit → Shared → Prop} : ∀ (vs : List Value), (∀ v ∈ vs, f v z = pure (.yield z) ∨ f v z = pure (.done z')) → Q z s → Q z' s → wpAny (model P w) A (forIn vs z f) Q E s
  | [], _, q, _ => wpAny_pure q
  | v :: vs, h, q, q' => by
    rw [List.forIn_cons]
    rcases h v (by simp) with e | e
    · rw [e]; exact wpAny_bind (wpAny_pure (ask_until vs (fun u hu => h u (by simp [hu])) q q'))
    · rw [e]; exact wpAny_bind (wpAny_pure (wpAny_pure q'))
theorem noClass {Q : Bool → Shared → Prop} (hk : isK P w s.heap k b) (h : Q false s) : wpAny (model P w) A (ofAClassStatement 8 (.ref b)) Q E s := by
  have hT : s.TypeIs (.ref b) "tuple" := IsTupleKey.typeIs (knd := mixKind P w) hk
  obtain ⟨o, vs, n, ho, hc, hd, hi⟩ := hk
  have hl := leafs hi
  unfold ofAClassStatement
  refine wpAny_bind (wpAny_typeOf hT ?_)
  dsimp only
  rw [show (("tuple" : String) == "tuple") = true by decide]
  simp only [if_true, Bool.not_true, Bool.false_eq_true, if_false]
  try refine wpAny_bind (wpAny_pure ?_)
  try simp only [Bool.not_true, Bool.false_eq_true, if_false]
  refine wpAny_bind (m := seqItems? (.ref b)) (wpAny_seqItems ho hd ?_)
  dsimp only
  refine wpAny_bind ?_
  rw [← Array.forIn_toList]
  refine ask_each _ (fun v hv => ?_) ?_
  · rw [(hl v hv).1]; rfl
  · exact wpAny_pure h
theorem byVal {Q : Bool → Shared → Prop} (hk : isK P w s.heap k b) (h : ∀ c, Q c s) : wpAny (model P w) A (hashByValue 8 (.ref b)) Q E s := by
  have hT : s.TypeIs (.ref b) "tuple" := IsTupleKey.typeIs (knd := mixKind P w) hk
  obtain ⟨o, vs, n, ho, hc, hd, hi⟩ := hk
  have hl := leafs hi
  unfold hashByValue
  refine wpAny_bind (wpAny_specialOf hT F.slot_tuple_hash.lookup ?_)
  refine wpAny_bind (m := seqItems? (.ref b)) (wpAny_seqItems ho hd ?_)
  refine wpAny_bind ?_
  rw [← Array.forIn_toList]
  refine ask_until (z' := (some false, ⟨⟩)) _ (fun v hv => ?_) ?_ ?_
  · obtain ⟨c, e⟩ := (hl v hv).2 7
    rw [e]
    cases c with
    | true => exact .inl rfl
    | false => exact .inr rfl
  · exact wpAny_pure (h _)
  · exact wpAny_pure (h _)
theorem unseen {Q : Bool → Shared → Prop} (hk : isK P w s.heap k b) {ys : List Value} (hy : ∀ y ∈ ys, ∃ k' c, y = Value.ref c ∧ isK P w s.heap k' c) (h : Q false s) :
    wpAny (model P w) A (searchCouldBeSeen (.ref b) ys) Q E s := by
  unfold searchCouldBeSeen
  refine wpAny_bind ?_
  refine wpAny_forIn_list _ (fun l r u => r.1 = none ∧ u = s ∧ ∀ y ∈ l, ∃ k' c, y = Value.ref c ∧ isK P w s.heap k' c) _ ?_ ?_ _ _ ⟨rfl, rfl, hy⟩
  · rintro v l r u ⟨e, rfl, all⟩
    obtain ⟨k', c, rfl, hc⟩ := all v (by simp)
    have all' : ∀ y ∈ l, ∃ k' c, y = Value.ref c ∧ isK P w u.heap k' c := fun y hy => all y (by simp [hy])
    dsimp only
    refine wpAny_ite ?_
    split
    · exact wpAny_pure ⟨rfl, rfl, all'⟩
    · refine wpAny_bind (wpAny_eqIsQuiet_tuple (knd := mixKind P w) hk ?_)
      rw [if_neg (by decide)]
      refine wpAny_bind (wpAny_eqIsQuiet_tuple (knd := mixKind P w) hc ?_)
      rw [if_neg (by decide)]
      refine wpAny_bind (noClass hk ?_)
      rw [if_neg (by decide)]
      refine wpAny_bind (noClass hc ?_)
      rw [if_neg (by decide)]
      exact wpAny_pure ⟨rfl, rfl, all'⟩
  · rintro ⟨r1, r2⟩ u ⟨e, rfl, _⟩
    cases e
    exact wpAny_pure h
end
end Vl
end
section
set_option maxRecDepth 100000
set_option maxHeartbeats 2000000
namespace Vl
open PySem PySem.Spec PyProof.Rows L2

/-- step c of the way of the hash h -/
def stp (m : Nat) (h : Int) (c : Nat) : SetTable.Probe := nth m (runAt m (SetTable.bits h % (m + 1)) (SetTable.bits h)) c
theorem nth_dummy (m : Nat) : ∀ (c : Nat) (p : SetTable.Probe), p.dummy = none → (nth m p c).dummy = none
  | 0, _, e => e
  | c + 1, p, e => nth_dummy m c (adv m p) (by unfold adv; split <;> exact e)
theorem look {t : SetTable} {hs : List Int} (T : TabOk t hs) {h : Int} {K c : Nat} (hf : K < 10 * SetTable.turns t.mask) (hK : way t.mask h K ∉ t.place.toList) (hb : ∀ q, q < K → way t.mask h q ∈ t.place.toList) (hc : c ≤ K) (g : Nat → Int) :
    (∃ q i, c ≤ q ∧ q < K ∧ t.place.toList[i]? = some (way t.mask h q) ∧ g i = h ∧ (∀ q' i', c ≤ q' → q' < q → t.place.toList[i']? = some (way t.mask h q') → g i' ≠ h) ∧
      t.probe g h (stp t.mask h c) = some (.candidate (way t.mask h q) i (stp t.mask h (q + 1)))) ∨
    ((∀ q' i', c ≤ q' → q' < K → t.place.toList[i']? = some (way t.mask h q') → g i' ≠ h) ∧ t.probe g h (stp t.mask h c) = some (.empty (way t.mask h K) none)) := by
  have up : ∀ q, nth t.mask (stp t.mask h c) q = stp t.mask h (c + q) := fun q => (nth_add t.mask c _ q).symm
  have upj : ∀ q, (nth t.mask (stp t.mask h c) q).j = way t.mask h (c + q) := fun q => congrArg SetTable.Probe.j (up q)
  have sp := go_spec t T.ris T.dm g h (10 * SetTable.turns t.mask) (K - c) (stp t.mask h c) (nth_dummy _ _ _ rfl) (by omega) (fun q hq => upj q ▸ hb _ (by omega)) (by rw [upj, Nat.add_sub_cancel' hc]; exact hK)
  rcases sp with ⟨q, i, h1, h2, h3, h4, h5⟩ | ⟨h4, h5⟩
  · rw [upj] at h2
    refine .inl ⟨c + q, i, by omega, by omega, h2, h3, fun q' i' l1 l2 e => h4 (q' - c) i' (by omega) (by rw [upj, Nat.add_sub_cancel' l1]; exact e), ?_⟩
    rw [← upj, show c + q + 1 = c + (q + 1) from rfl, ← up]
    exact h5
  · refine .inr ⟨fun q' i' l1 l2 e => h4 (q' - c) i' (by omega) (by rw [upj, Nat.add_sub_cancel' l1]; exact e), ?_⟩
    rw [show way t.mask h K = (nth t.mask (stp t.mask h c) (K - c)).j by rw [upj, Nat.add_sub_cancel' hc]]
    exact h5

abbrev KL := List (Addr × List Key)
def hsL (P : Program) (w : World) (L : KL) : List Int := L.map fun p => hsK P w p.2
def rowL (P : Program) (w : World) (L : KL) : List (Int × Value) := L.map fun p => (hsK P w p.2, Value.ref p.1)
/-- the table of a set of such tuples -/
structure KTab (P : Program) (w : World) (es : Array (Int × Value)) (t : SetTable) (L : KL) : Prop where
  row : es.toList = rowL P w L
  tab : TabOk t (hsL P w L)
  nd : (L.map Prod.snd).Nodup
  gap : L.length * 5 < t.mask * 3
  few : L.length < 64
def KSet (P : Program) (w : World) (h : Heap) (a : Addr) (L : KL) : Prop := ∃ o es ep t, h.get? a = some o ∧ o.ExactSet ∧ o.data = .set es ep t ∧ KTab P w es t L
def KTup (P : Program) (w : World) (h : Heap) (L : KL) : Prop := ∀ p ∈ L, isK P w h p.2 p.1
section
variable {P : Program} {w : World} {A : Around} {E : Value → Shared → Prop} {s : Shared} {L : KL} {es : Array (Int × Value)} {t : SetTable} {a : Addr}
theorem KTab.size (R : KTab P w es t L) : es.size = L.length := by
  rw [← Array.length_toList, R.row]; exact List.length_map _
theorem KTab.fits (R : KTab P w es t L) : t.fits es.size = true := by
  have z := R.tab.sz
  have y : (hsL P w L).length = L.length := List.length_map _
  have g := R.gap
  simp only [SetTable.fits, SetTable.fill, R.tab.dm, Bool.and_eq_true, beq_iff_eq, decide_eq_true_eq, R.size]
  constructor
  · omega
  · show t.place.size + 0 ≤ t.mask
    omega
theorem KTab.at {i : Nat} {p : Addr × List Key} (R : KTab P w es t L) (e : L[i]? = some p) : es[i]? = some (hsK P w p.2, Value.ref p.1) := by
  rw [← Array.getElem?_toList, R.row, rowL, List.getElem?_map, e]; rfl
theorem KTab.in {i j : Nat} (R : KTab P w es t L) (e : t.place.toList[i]? = some j) : ∃ p, L[i]? = some p := by
  have h1 := (List.getElem?_eq_some_iff.mp e).1
  rw [Array.length_toList, R.tab.sz, hsL, List.length_map] at h1
  exact ⟨_, List.getElem?_eq_getElem h1⟩

/-- the search for a place for the key k -/
theorem seek {o : Obj} {ep : Nat} (ho : s.heap.get? a = some o) (hd : o.data = .set es ep t) (R : KTab P w es t L) (ht : KTup P w s.heap L) {x : Addr} {k : List Key} (hx : isK P w s.heap k x) (hu : A.units < cLine) {K : Nat} (hf : K < 10 * SetTable.turns t.mask)
    (hK : way t.mask (hsK P w k) K ∉ t.place.toList) (hb : ∀ c, c < K → way t.mask (hsK P w k) c ∈ t.place.toList) {Q : SetFound → Shared → Prop}
    (yes : k ∈ L.map Prod.snd → Q (.there none) s) (no : k ∉ L.map Prod.snd → Q (.free (way t.mask (hsK P w k) K) false) s) :
    ∀ (n c : Nat) (st : Option SetTable.Probe), st.getD (t.probeStart (hsK P w k)) = stp t.mask (hsK P w k) c → c ≤ K → K < n + c →
      (∀ (i : Nat) (p : Addr × List Key), L[i]? = some p → p.2 = k → ∃ c', c ≤ c' ∧ c' < K ∧ t.place.toList[i]? = some (way t.mask (hsK P w k) c')) →
      wpAny (model P w) A (setSearchFrom a (.ref x) (hsK P w k) true n st) Q E s
  | 0, c, _, _, l1, l2, _ => absurd l1 (by omega)
  | n + 1, c, st, hst, l1, l2, still => by
    rw [setSearchFrom_succ]
    refine wpAny_bind (wpAny_setState_of ho hd R.fits ?_)
    dsimp only
    rw [if_neg (show ¬ t.gaveWay = true by unfold SetTable.gaveWay; rw [mask_odd R.tab.mok]; decide)]
    try refine wpAny_bind (wpAny_pure ?_)
    have hgi : ∀ (i : Nat) (p : Addr × List Key), L[i]? = some p → (es[i]?.map fun y => y.1).getD 0 = hsK P w p.2 := fun i p e => by rw [R.at e]; rfl
    rcases look R.tab hf hK hb l1 (fun i => (es[i]?.map fun y => y.1).getD 0) with ⟨q, i, g1, g2, g3, g4, g5, g6⟩ | ⟨g5, g6⟩
    · rw [hst, g6]
      dsimp only
      obtain ⟨p, hp⟩ := R.in g3
      have pin : p ∈ L := List.mem_of_getElem? hp
      have go : wpAny (model P w) A (searchRest a (.ref x) (hsK P w k) true n es t (way t.mask (hsK P w k) q) i (stp t.mask (hsK P w k) (q + 1))) Q E s := by
        unfold searchRest
        rw [R.at hp]
        dsimp only
        refine wpAny_bind (wpAny_holding (wpAny_eqBool_tuple (knd := mixKind P w) hu (ht p pin) hx ?_))
        refine wpAny_bind (wpAny_setState_of ho hd R.fits ?_)
        dsimp only
        by_cases ek : p.2 = k
        · rw [if_pos (by simp [ek])]
          exact wpAny_pure (yes (List.mem_map.mpr ⟨p, pin, ek⟩))
        · rw [if_neg (by simp [ek])]
          try refine wpAny_bind (wpAny_pure ?_)
          have sl : t.slot (way t.mask (hsK P w k) q) = .live i := slot_live R.tab.ris g3
          simp only [sameMem, if_true, sl, R.at hp]
          refine wpAny_bind (wpAny_isSame_ref_self (wpAny_bind (wpAny_pure ?_)))
          simp only [if_true]
          rw [if_neg (by simp [ek])]
          refine seek ho hd R ht hx hu hf hK hb yes no n (q + 1) _ rfl g2 (by omega) fun i0 p0 e0 k0 => ?_
          obtain ⟨c', b1, b2, b3⟩ := still i0 p0 e0 k0
          refine ⟨c', Nat.lt_of_not_le fun le => ?_, b2, b3⟩
          by_cases eq : c' = q
          · subst eq
            have := (slot_live R.tab.ris b3).symm.trans sl
            injection this with this
            subst this
            rw [hp] at e0
            cases e0
            exact ek k0
          · exact g5 c' i0 b1 (by omega) b3 ((hgi i0 p0 e0).trans (congrArg (hsK P w) k0))
      cases hl : t.led with
      | true => rw [if_neg (by simp)]; first | exact go | exact wpAny_bind (wpAny_pure go)
      | false =>
        rw [if_pos (by simp)]
        refine wpAny_bind (unseen hx (fun y hy => ?_) ?_)
        · obtain ⟨r, hr, er⟩ := List.mem_map.mp hy
          have hr' : r ∈ es.toList := by
            have : r ∈ es ∧ r.1 = hsK P w k := by simpa using hr
            simpa using this.1
          rw [R.row] at hr'
          obtain ⟨p', hp', ep'⟩ := List.mem_map.mp hr'
          exact ⟨p'.2, p'.1, by rw [← er, ← ep'], ht p' hp'⟩
        · rw [if_neg (by decide)]
          first | exact go | exact wpAny_bind (wpAny_pure go)
    · rw [hst, g6]
      dsimp only
      refine wpAny_pure (no fun hm => ?_)
      obtain ⟨p0, m0, k0⟩ := List.mem_map.mp hm
      obtain ⟨i0, l0, rfl⟩ := List.getElem_of_mem m0
      obtain ⟨c', b1, b2, b3⟩ := still i0 _ (List.getElem?_eq_getElem l0) k0
      exact g5 c' i0 b1 b2 b3 ((hgi i0 _ (List.getElem?_eq_getElem l0)).trans (congrArg (hsK P w) k0))
theorem seek0 {o : Obj} {ep : Nat} (ho : s.heap.get? a = some o) (hd : o.data = .set es ep t) (R : KTab P w es t L) (ht : KTup P w s.heap L) {x : Addr} {k : List Key} (hx : isK P w s.heap k x) (hu : A.units < cLine) {Q : SetFound → Shared → Prop}
    (yes : k ∈ L.map Prod.snd → Q (.there none) s)
    (no : ∀ K, k ∉ L.map Prod.snd → way t.mask (hsK P w k) K ∉ t.place.toList → (∀ c, c < K → way t.mask (hsK P w k) c ∈ t.place.toList) → Q (.free (way t.mask (hsK P w k) K) false) s) :
    wpAny (model P w) A (setSearch a (.ref x) (hsK P w k) true) Q E s := by
  have g := R.gap
  have y : (hsL P w L).length = L.length := List.length_map _
  obtain ⟨K, hf, hK, hb⟩ := R.tab.first (by omega) (hsK P w k)
  have small : 10 * SetTable.turns t.mask < 100000 := by
    unfold SetTable.turns
    rcases R.tab.mok with e | e | e <;> rw [e] <;> decide
  unfold setSearch
  refine seek ho hd R ht hx hu hf hK hb yes (fun z => no K z hK hb) 100000 0 none rfl (Nat.zero_le _) (by omega) fun i p e ek => ?_
  have e1 : (hsL P w L)[i]? = some (hsK P w k) := by rw [hsL, List.getElem?_map, e, ← ek]; rfl
  have l1 : i < t.place.toList.length := by
    rw [Array.length_toList, R.tab.sz]
    exact (List.getElem?_eq_some_iff.mp e1).1
  obtain ⟨c, hc, e2⟩ := R.tab.before hK e1 (List.getElem?_eq_getElem l1)
  exact ⟨c, Nat.zero_le _, hc, by rw [e2]; exact List.getElem?_eq_getElem l1⟩
end
end Vl
end
section
set_option maxRecDepth 100000
set_option maxHeartbeats 2000000
namespace Vl
open PySem PySem.Spec PyProof.Rows L2
section
variable {P : Program} {w : World} {A : Around} {E : Value → Shared → Prop} {s : Shared} {L : KL} {es : Array (Int × Value)} {t : SetTable} {a : Addr}
theorem isK.but {h h' : Heap} {k : List Key} {b : Addr} {o : Obj} {ep : Nat} (hb : isK P w h k b) (ho : h.get? a = some o) (hd : o.data = .set es ep t) (sb : Heap.SameBut a h h') : isK P w h' k b := by
  obtain ⟨o', vs, n, e1, e2, e3, e4⟩ := hb
  have ne : b ≠ a := fun e => by
    subst e
    cases ho.symm.trans e1
    rw [hd] at e3
    cases e3
  exact ⟨o', vs, n, by rw [sb.2 b ne]; exact e1, e2, e3, e4⟩
theorem filterMap_get {α β : Type} (f : Nat → Option α) (r : Nat → α) : ∀ l : List Nat, (∀ i ∈ l, f i = some (r i)) → l.filterMap f = l.map r
  | [], _ => rfl
  | i :: l, h => by rw [List.filterMap_cons_some (h i (by simp)), filterMap_get (β := β) f r l fun j hj => h j (by simp [hj])]; rfl
theorem map_range_get {α : Type} [Inhabited α] (L : List α) : (List.range L.length).map (fun i => L.getD i default) = L := by
  refine List.ext_getElem (by simp) fun i h1 h2 => ?_
  simp only [List.getElem_map, List.getElem_range, List.getD_eq_getElem?_getD, List.getElem?_eq_getElem h2, Option.getD_some]
/-- a new table for the same entries -/
theorem relay {o : Obj} {ep : Nat} (ho : s.heap.get? a = some o) (hx : o.ExactSet) (hd : o.data = .set es ep t) (hr : es.toList = rowL P w L) (hz : t.place.size = es.size) (hm : t.dummies = #[]) (hl : es.size ≤ t.mask)
    (nd : (L.map Prod.snd).Nodup) (few : L.length < 64) {wanted M : Nat} (e1 : SetTable.sizeAbove wanted - 1 = M) (hM : MaskOk M) (e2 : SetTable.sizeAbove wanted ≤ 128) (gap : L.length * 5 < M * 3) {Q : Unit → Shared → Prop}
    (hQ : ∀ h' L', Heap.SameBut a s.heap h' → KSet P w h' a L' → L'.Perm L → Q () { s with heap := h' }) : wpAny (model P w) A (setRelay a wanted) Q E s := by
  have z : es.size = L.length := by rw [← Array.length_toList, hr]; exact List.length_map _
  have fit : t.fits es.size = true := by
    simp only [SetTable.fits, SetTable.fill, hm, Bool.and_eq_true, beq_iff_eq, decide_eq_true_eq]
    exact ⟨hz, by show t.place.size + 0 ≤ t.mask; omega⟩
  obtain ⟨t', order, f1, f2, f3, f4, f5, f6, f7⟩ := relaid_ok t (hs := es.map (·.1)) (wanted := wanted) e1 hM (by rw [Array.size_map, z]; omega)
  rw [Array.size_map, z] at f2
  have at_ : ∀ i, i < L.length → es[i]? = some (hsK P w (L.getD i default).2, Value.ref (L.getD i default).1) := fun i hi => by
    rw [← Array.getElem?_toList, hr, rowL, List.getElem?_map, List.getD_eq_getElem?_getD, List.getElem?_eq_getElem hi]; rfl
  have lt : ∀ i ∈ order.toList, i < L.length := fun i hi => List.mem_range.mp (f2.mem_iff.mp hi)
  have row2 : (order.filterMap (es[·]?)).toList = rowL P w (order.toList.map fun i => L.getD i default) := by
    rw [Array.toList_filterMap, filterMap_get (β := Nat) _ (fun i => (hsK P w (L.getD i default).2, Value.ref (L.getD i default).1)) _ fun i hi => at_ i (lt i hi), rowL, List.map_map]
    rfl
  have pm : (order.toList.map fun i => L.getD i default).Perm L := by
    have := f2.map fun i => L.getD i default
    rwa [map_range_get] at this
  have tab2 : TabOk t' (hsL P w (order.toList.map fun i => L.getD i default)) := by
    have : hsL P w (order.toList.map fun i => L.getD i default) = order.toList.map fun i => (es.map (·.1)).getD i 0 := by
      rw [hsL, List.map_map]
      refine List.map_congr_left fun i hi => ?_
      have : (es.map (·.1))[i]? = some (hsK P w (L.getD i default).2) := by rw [Array.getElem?_map, at_ i (lt i hi)]; rfl
      rw [Array.getD_eq_getD_getElem?, this]
      rfl
    rw [this]; exact f3
  have z2 : (order.filterMap (es[·]?)).size = es.size := by rw [← Array.length_toList, row2, rowL, List.length_map, pm.length_eq, z]
  rw [setRelay_eq]
  refine wpAny_bind (wpAny_setState_of ho hd fit ?_)
  dsimp only
  rw [if_neg (by rw [sizeLine_eq]; omega)]
  try refine wpAny_bind (wpAny_pure ?_)
  rw [f1]
  dsimp only
  refine wpAny_bind ?_
  rw [if_neg (by rw [z2]; simp)]
  try refine wpAny_bind (wpAny_pure ?_)
  refine wpAny_pure ?_
  dsimp only
  generalize order.filterMap (es[·]?) = es' at row2 z2 ⊢
  refine wpAny_storeSet_of ho hd ?_ (by rw [z2, z, sizeLine_eq]; omega)
  exact hQ _ _ (Heap.SameBut.update ..) ⟨_, es', ep + 1, t', store_at ho hd, ⟨hx.1, hx.2.1, hx.2.2⟩, rfl, ⟨row2, tab2, (pm.map Prod.snd).nodup_iff.mpr nd, by rw [pm.length_eq, f4]; exact gap, by rw [pm.length_eq]; exact few⟩⟩ pm
/-- found.add(k) behind the hash -/
theorem addK {x : Addr} {k : List Key} (R : KSet P w s.heap a L) (ht : KTup P w s.heap L) (hx : isK P w s.heap k x) (hu : A.units < cLine) (few : L.length + 1 < 64) {Q : Bool → Shared → Prop}
    (hQ : ∀ c h' L', Heap.SameBut a s.heap h' → KSet P w h' a L' → (k ∈ L.map Prod.snd → L' = L) → (k ∉ L.map Prod.snd → L'.Perm ((x, k) :: L)) → Q c { s with heap := h' }) :
    wpAny (model P w) A (setAddHashed a (.ref x) (hsK P w k)) Q E s := by
  obtain ⟨o, es, ep, t, ho, hex, hd, R⟩ := id R
  have sz := R.size
  have gap := R.gap
  unfold setAddHashed
  refine wpAny_holding ?_
  rw [show (100000 : Nat) = 99999 + 1 from rfl, setAddHashedIn_succ]
  refine wpAny_bind (wpAny_setState_of ho hd R.fits ?_)
  dsimp only
  rw [if_neg (by simp [byScan, Value.scannable])]
  try refine wpAny_bind (wpAny_pure ?_)
  refine wpAny_bind (seek0 ho hd R ht hx hu (fun old => ?_) fun K new hK hb => ?_)
  · exact wpAny_pure (hQ false s.heap L (Heap.SameBut.refl a s.heap) ⟨o, es, ep, t, ho, hex, hd, R⟩ (fun _ => rfl) fun z => absurd old z)
  dsimp only
  refine wpAny_bind (wpAny_setState_of ho hd R.fits ?_)
  dsimp only
  obtain ⟨p1, p2, p3, p4, p5, p6, p7, p8, p9⟩ := R.tab.put hK hb
  generalize t.put (way t.mask (hsK P w k) K) = pt at p1 p3 p4 p5 p6 p7 p8 p9 ⊢
  obtain ⟨t1, p⟩ := pt
  dsimp only at p1 p3 p4 p5 p6 p7 p8 p9 ⊢
  subst p1
  generalize SetTable.below t.place (way t.mask (hsK P w k) K) = p at p2 p3 ⊢
  have rw1 : (SetTable.insertAt es p (hsK P w k, Value.ref x)).toList = rowL P w (L.take p ++ (x, k) :: L.drop p) := by
    rw [SetTable.toList_insertAt, R.row, rowL, rowL, List.map_append, List.map_cons, List.map_take, List.map_drop]
  have hs1 : (hsL P w L).take p ++ hsK P w k :: (hsL P w L).drop p = hsL P w (L.take p ++ (x, k) :: L.drop p) := by
    rw [hsL, hsL, List.map_append, List.map_cons, List.map_take, List.map_drop]
  have pm : (L.take p ++ (x, k) :: L.drop p).Perm ((x, k) :: L) := put_perm L p (x, k)
  rw [hs1] at p3
  generalize L.take p ++ (x, k) :: L.drop p = L1 at pm p3 rw1
  generalize SetTable.insertAt es p (hsK P w k, Value.ref x) = es1 at rw1 ⊢
  have len1 : L1.length = L.length + 1 := pm.length_eq
  have z1 : es1.size = L.length + 1 := by rw [← Array.length_toList, rw1, rowL, List.length_map, len1]
  have nd1 : (L1.map Prod.snd).Nodup := (pm.map Prod.snd).nodup_iff.mpr (List.nodup_cons.mpr ⟨new, R.nd⟩)
  -- whatever the table says of its being plain
  have rest : ∀ t2 : SetTable, t2.place = t1.place → t2.dummies = t1.dummies → t2.mask = t1.mask → t2.fill = t1.fill → TabOk t2 (hsL P w L1) →
      wpAny (model P w) A (do storeSet a es1 t2; if (!false && t2.tooFull) = true then (do setRelay a (SetTable.grown (es.size + 1)); pure true) else pure true) Q E s := fun t2 u1 u2 u3 u4 T2 => by
    have zt : t2.place.size = es1.size := by
      have := T2.sz
      rw [hsL, List.length_map, len1] at this
      rw [this, z1]
    have lm : es1.size ≤ t2.mask := by
      have := R.tab.mok
      rw [z1, u3, p4]
      rcases this with e | e | e <;> rw [e] at gap ⊢ <;> omega
    refine wpAny_bind (wpAny_storeSet_of ho hd ?_ (by rw [z1, sizeLine_eq]; omega))
    have sb : Heap.SameBut a s.heap (s.heap.update a (Obj.putSet es1 t2)) := Heap.SameBut.update ..
    have ho1 := store_at (es' := es1) (t' := t2) ho hd
    generalize s.heap.update a (Obj.putSet es1 t2) = h1 at sb ho1 ⊢
    cases full : t2.tooFull with
    | false =>
      simp only [Bool.not_false, Bool.and_false, Bool.false_eq_true, if_false]
      refine (wpAny_pure (hQ true h1 L1 sb ⟨_, es1, ep + 1, t2, ho1, ⟨hex.1, hex.2.1, hex.2.2⟩, rfl, ⟨rw1, T2, nd1, ?_, by omega⟩⟩ (fun z => absurd z new) fun _ => pm))
      unfold SetTable.tooFull at full
      rw [decide_eq_false_iff_not, u4, p9, hsL, List.length_map] at full
      omega
    | true =>
      simp only [Bool.not_false, Bool.and_true, if_true]
      unfold SetTable.tooFull at full
      rw [decide_eq_true_eq, u4, p9, u3, p4, hsL, List.length_map] at full
      have go : ∀ M, SetTable.sizeAbove (SetTable.grown (L.length + 1)) - 1 = M → MaskOk M → SetTable.sizeAbove (SetTable.grown (L.length + 1)) ≤ 128 → (L.length + 1) * 5 < M * 3 →
          wpAny (model P w) A (setRelay a (SetTable.grown (es.size + 1)) >>= fun _ => pure true) Q E { s with heap := h1 } := fun M m1 m2 m3 m4 => by
        rw [sz]
        refine wpAny_bind (relay (s := { s with heap := h1 }) ho1 ⟨hex.1, hex.2.1, hex.2.2⟩ rfl rw1 zt T2.dm lm nd1 (by omega) m1 m2 m3 (by omega) fun h2 L2 sb2 R2 pm2 => ?_)
        exact wpAny_pure (hQ true h2 L2 (sb.trans sb2) R2 (fun z => absurd z new) fun _ => pm2.trans pm)
      have two : L.length = 4 ∨ L.length = 18 := by
        rcases R.tab.mok with e | e | e <;> rw [e] at full gap <;> omega
      rcases two with e | e
      · exact go 31 (by rw [e, size_20]) (.inr (.inl rfl)) (by rw [e, size_20]; decide) (by omega)
      · exact go 127 (by rw [e, size_76]) (.inr (.inr rfl)) (by rw [e, size_76]; decide) (by omega)
  have T1 : ∀ c : Bool, TabOk { t1 with plain := c } (hsL P w L1) := fun c => ⟨p3.ris, p3.dm, p3.sz, p3.mok, p3.bd, p3.reach⟩
  have fin : ∀ c : Bool, wpAny (model P w) A (do storeSet a es1 (if c = true then t1 else { t1 with plain := false }); if (!false && (if c = true then t1 else { t1 with plain := false }).tooFull) = true then (do setRelay a (SetTable.grown (es.size + 1)); pure true) else pure true) Q E s := fun c => by
    cases c with
    | true => exact rest t1 rfl rfl rfl rfl p3
    | false => exact rest { t1 with plain := false } rfl rfl rfl rfl (T1 false)
  refine wpAny_ite ?_
  split
  · exact wpAny_bind (byVal hx fun c => fin c)
  · exact wpAny_bind (wpAny_pure (fin true))
end
end Vl
end
section
set_option maxRecDepth 100000
set_option maxHeartbeats 2000000
namespace Vl
open PySem PySem.Spec PyProof.Rows L2
section
variable {P : Program} {w : World} {A : Around} {E : Value → Shared → Prop} {s : Shared} {L : KL} {a x : Addr} {k : List Key}
theorem KSet.is {h : Heap} (R : KSet P w h a L) : ∃ o, h.get? a = some o ∧ o.cls = .type "set" := by
  obtain ⟨o, es, ep, t, ho, hx, _⟩ := R
  exact ⟨o, ho, hx.1⟩
theorem call_addK (R : KSet P w s.heap a L) (ht : KTup P w s.heap L) (hx : isK P w s.heap k x) (hu : A.units + 64 < cLine) (few : L.length + 1 < 64) {Q : Value → Shared → Prop}
    (hQ : ∀ h' L' tk, Heap.SameBut a s.heap h' → KSet P w h' a L' → (k ∈ L.map Prod.snd → L' = L) → (k ∉ L.map Prod.snd → L'.Perm ((x, k) :: L)) → Q .none { s with heap := h', toks := tk }) :
    wpAny (model P w) A (call (.builtin "set.add") [.ref a, .ref x]) Q E s := by
  refine wpAny_call_entry F.slot_set_add (R.is : s.TypeIs (.ref a) "set") F.entry_set_add ?_ (F.args_set_add_2 _ _)
  unfold Builtin.«set.add» Builtin.Frozenset.oneOther
  simp only [List.isEmpty_nil, bind_assoc]
  unfold Builtin.Frozenset.addrOf setAdd
  refine wpAny_bind (wpAny_pure ?_)
  try dsimp only
  refine wpAny_bind (wpAny_pure ?_)
  try dsimp only
  refine wpAny_bind (wpAny_holding ?_)
  refine wpAny_bind (wpAny_pyHash_tuple (knd := mixKind P w) ?_ hx ?_)
  · show A.units + 1 < cLine
    omega
  · refine addK (s := { s with toks := s.toks + (k.length + 1) }) R ht hx ?_ few fun c h' L' sb R' o1 o2 => ?_
    · show A.units + 1 < cLine
      omega
    · show wpAny _ _ (ret Value.none) _ _ _
      exact wpAny_pure ⟨_, rfl, hQ h' L' _ sb R' o1 o2⟩
theorem len_K (R : KSet P w s.heap a L) {Q : Value → Shared → Prop} (h : ∀ tk tk', Q (.int L.length tk) { s with toks := tk' }) : wpAny (model P w) A (call (.builtin "len") [.ref a]) Q E s := by
  obtain ⟨o, es, ep, t, ho, hx, hd, R⟩ := R
  refine call_len_set ho hx hd R.fits (by have := R.few; have := R.size; omega) ?_
  rw [R.size]
  exact h _ _
theorem len_I {S : Int → Bool} {n : Nat} (R : SetR w s.heap a S n) (hn : n < 1000) {Q : Value → Shared → Prop} (h : ∀ tk tk', Q (.int n tk) { s with toks := tk' }) : wpAny (model P w) A (call (.builtin "len") [.ref a]) Q E s := by
  obtain ⟨o, es, ep, t, ho, hx, hd, _, _, _, _, hf, hz, _⟩ := R
  refine call_len_set ho hx hd hf (by omega) ?_
  rw [hz]
  exact h _ _
theorem kset_new (w : World) {h : Heap} : KSet P w (h.push { cls := .type "set", dict := none, data := .set #[] 0 (.fresh 0 0 (!w.params.followText "set-order")) }) h.objs.size [] :=
  ⟨_, #[], 0, _, Heap.get?_push_size _ rfl, ⟨rfl, rfl, rfl⟩, rfl, rfl, { ris := List.Pairwise.nil, dm := rfl, sz := rfl, mok := .inl rfl, bd := fun x hx => by simp [SetTable.fresh] at hx, reach := fun i h j e => by simp [hsL] at e }, List.nodup_nil, by show 0 * 5 < 7 * 3; decide, by decide⟩
end
/-- as a thing of the layer -/
def KSo (P : Program) (w : World) (a : Addr) (L : KL) : HO := .ext fun h => KSet P w h a L
theorem kso_ok {P : Program} {w : World} {H : Hp} {h : Heap} {a : Addr} {L : KL} (R : KSet P w h a L) : ObjOk P w H h a (KSo P w a L) :=
  ⟨R, by have ⟨o, ho, _⟩ := R.is; exact ⟨o, ho⟩, fun h1 h2 p kp => by
    have ⟨o, es, ep, t, ho, r⟩ := (p : KSet P w h1 a L)
    exact ⟨o, es, ep, t, kp o ho, r⟩⟩
theorem items_key {P : Program} {w : World} : ∀ {k : List Key} {us : List Value}, Vals (k.map kV) us → ItemsAre (mixKind P w) k us
  | [], _, .nil => .nil
  | _ :: _, _, .cons r t => .cons (kV_is r) (items_key t)
section
variable {X : Cx} {pins : List (Addr × Obj)} {σ : L2.St} {H : Hp} {s : Shared}
theorem inv_isK {b : Addr} {k : List Key} (I : Inv X pins σ H s) (h : SqT X.K H b (k.map kV)) : isK X.prog X.w s.heap k b := by
  obtain ⟨us, r, ⟨o, ho, hc, n, hd⟩, _⟩ := I.tuple h
  exact ⟨o, us.toArray, n, ho, hc, hd, by rw [List.toList_toArray]; exact items_key r⟩
/-- found.add(k), k such a tuple -/
def rAddT (K : PySem.W.Frag) (P : Program) (w : World) : V → List V → Hp → VK → Prop := fun x xs H Q => ∃ (a b : Addr) (k : List Key) (L : KL), x = .ref a ∧ xs = [.ref b] ∧ H a = some (KSo P w a L) ∧ (∀ p ∈ L, SqT K H p.1 (p.2.map kV)) ∧ SqT K H b (k.map kV) ∧ L.length + 1 < 64 ∧
  ∀ L' : KL, (k ∈ L.map Prod.snd → L' = L) → (k ∉ L.map Prod.snd → L'.Perm ((b, k) :: L)) → Q .non (upd H a (KSo P w a L'))
theorem mt_addT (hu : X.A.units + 64 < cLine) : MtR X "set.add" (rAddT X.K X.prog X.w) := by
  rintro pins s σ H x xs v us Q I rx rxs ⟨a, b, k, L, rfl, rfl, ha, hL, hb, few, q⟩
  cases rx
  cases rxs with
  | cons ry rt =>
    cases rt
    cases ry
    have R : KSet X.prog X.w s.heap a L := (I.hok a _ ha).1
    refine call_addK R (fun p hp => inv_isK I (hL p hp)) (inv_isK I hb) hu few fun h' L' tk sb R' o1 o2 => ?_
    have ⟨o, ho, _⟩ := R'.is
    exact ⟨.non, _, I.write (e := a) (t' := tk) (by rw [ha]; trivial) (.inl rfl) (fun c u hc hu' => (sb.2 c hc).trans hu') ⟨o, ho⟩ (kso_ok R'), rfl, q L' o1 o2⟩
/-- len of a set -/
def rLenK (P : Program) (w : World) : List V → Hp → VK → Prop := fun xs H Q => ∃ a, xs = [.ref a] ∧ ((∃ L, H a = some (KSo P w a L) ∧ Q (.int (L.length : Nat)) H) ∨ ∃ S n, H a = some (SetO w a S n) ∧ n < 1000 ∧ Q (.int (n : Nat)) H)
theorem cr_lenK : CallR X (.builtin "len") (rLenK X.prog X.w) := by
  rintro pins s σ H xs us Q I r ⟨a, rfl, q⟩
  obtain ⟨u, rfl, rx⟩ := vals1 r
  cases rx
  rcases q with ⟨L, ha, q⟩ | ⟨S, n, ha, hn, q⟩
  · exact len_K (I.hok a _ ha).1 fun tk tk' => ⟨.int _, H, I.tok tk', ⟨tk, rfl⟩, q⟩
  · exact len_I (setO_get I ha) hn fun tk tk' => ⟨.int _, H, I.tok tk', ⟨tk, rfl⟩, q⟩
end
end Vl
end
section
set_option maxRecDepth 100000
set_option maxHeartbeats 2000000
namespace Vl
open PySem PySem.Spec PyProof.Rows L2 PpSet
/-- {elt for target in iter if ..}: mk D the new set, r what adding asks and does -/
def tSet (mk : Addr → HO) (r : V → List V → Hp → VK → Prop) (wi : TI) (g : TG) (tt : TT) (te : TE) (vs : List Nat) : TE := fun σ H Q => wi σ H fun J H1 => ∀ D, H1 D = none → ∃ W : Nat → Nat → Hp → Prop, (∃ m, W 0 m (upd H1 D (mk D))) ∧ ∀ i m H, W i m H →
  (J.stop i H ∧ Q (.ref D) H) ∨ (J.go i H ∧ ∃ Nx : Hp → Prop, (∀ H', Nx H' → ∃ m', m' < m ∧ W (i + 1) m' H') ∧ ∀ x H', J.yld i H x H' → g x (wipe σ vs) H' fun σ2 H2 => wipe σ2 vs = wipe σ vs ∧ tt σ2 H2 fun b H3 =>
    if b = true then te σ2 H3 fun y H4 => r (.ref D) [y] H4 fun _ H5 => Nx H5 else Nx H3)
abbrev noSet (w : World) : Obj := { cls := .type "set", dict := none, data := .set #[] 0 (.fresh 0 0 (!w.params.followText "set-order")) }
section
variable {X : Cx} {elt tg iter : Expr} {ifs : List Expr} {scope : Scope} {own : List (PySem.Str × Nat)} {pos : Pos} {wi : TI} {g : TG} {tt : TT} {te : TE} {mk : Addr → HO} {r : V → List V → Hp → VK → Prop}
abbrev InBlk (X : Cx) (scope : Scope) (p : Cx → Prop) : Prop := ∀ (s : Shared) (H : Hp) (C : Addr) (cl : List (PySem.Str × Addr)) (fp : List Addr), p (X.blk s H scope (compEnvC scope cl C X.env) fp)
theorem pe_set (hc : X.calm = true) (hN : X.N.Nodup) (hi : PI X tg iter wi) (ok : BlkOk X.N X.env.scope scope own) (hn : ∀ (H : Hp) (h : Heap), ObjOk X.prog X.w H (h.push (noSet X.w)) h.objs.size (mk h.objs.size))
    (hr : InBlk X scope fun Y => MtR Y "set.add" r) (hg : InBlk X scope fun Y => PG Y tg g) (ht : InBlk X scope fun Y => PTs Y ifs tt) (he : InBlk X scope fun Y => PE Y elt te) (hs : ∀ x, foldedSetIterable iter X.env x = pure x := by intro _; rfl) :
    PE X (.SetComp elt [⟨tg, iter, ifs, 0⟩] scope pos) (tSet mk r wi g tt te (own.map Prod.snd)) := by
  constructor
  intro pins s σ H Q I h
  rw [eval_SetComp]
  have capt : ∀ y ∈ scope.names, y.2 = .free → ∃ c, X.env.cells.lookup y.1 = some c := fun y hy e => (ok.free y hy e).elim (fun z => I.ok.has _ (.inl z)) fun z => I.ok.has _ (.inr z)
  refine wpAny_comprehension_free rfl hs (closure_ok capt) ok.kind (fun y hy e => (ok.uniq y hy).trans (congrArg some e)) (thn (hi.run pins s σ H _ I h) fun _ u1 hx => thn hx fun _ u2 h2 => ?_)
  obtain ⟨it, fp, tn, J, HJ, rfl, IJ, T, st, fk, q⟩ := h2
  refine newSet_ok (newEnv_comp ?_)
  obtain ⟨D, hD⟩ : ∃ D, D = u2.heap.objs.size := ⟨_, rfl⟩
  rw [← hD]
  have fresh : HJ D = none := IJ.hok.fresh (Nat.le_of_eq hD.symm)
  obtain ⟨W, ⟨m0, w0⟩, turn⟩ := q D fresh
  -- the set is there
  obtain ⟨u3, hu3⟩ : ∃ u3 : Shared, u3 = { u2 with heap := u2.heap.push (noSet X.w) } := ⟨_, rfl⟩
  obtain ⟨HD, hHD⟩ : ∃ HD, HD = upd HJ D (mk D) := ⟨_, rfl⟩
  have I3 : Inv X pins σ HD u3 := by
    subst hHD hu3 hD
    exact IJ.laid (t' := u2.toks) (fun b o e => Heap.get?_push_of_some _ e) (Nat.le_refl _) (hn _ u2.heap)
  have push3 : ∀ b o, u2.heap.get? b = some o → u3.heap.get? b = some o := fun b o e => by rw [hu3]; exact Heap.get?_push_of_some _ e
  have hfp : ∀ b ∈ fp, FpOk X pins HD b ∧ b < u3.heap.objs.size := fun b hb => by
    obtain ⟨o, e, _⟩ := T.obj _ _ st b hb
    have lt := Heap.lt_size e
    refine ⟨⟨?_, (fk b hb).2⟩, Heap.lt_size (push3 b o e)⟩
    rw [hHD, upd_ne (Nat.ne_of_lt (by rw [hD]; exact lt))]
    exact (fk b hb).1
  have I4 := block_start I3 ok hN hfp
  have nofp : ∀ b ∈ fp, HD b = none := fun b hb => (hfp b hb).1.1
  rw [← hHD] at w0
  obtain ⟨cl, hcl⟩ : ∃ cl, cl = cellsFrom (u3.heap.objs.size + 1) scope.names (cloFrom X.env.cells scope.names []) := ⟨_, rfl⟩
  have pg := hg u3 HD u3.heap.objs.size cl fp
  have pt := ht u3 HD u3.heap.objs.size cl fp
  have pe := he u3 HD u3.heap.objs.size cl fp
  have pr := hr u3 HD u3.heap.objs.size cl fp
  have start : codeAny (model X.prog X.w) X.A (.compStart (.SetComp elt [⟨tg, iter, ifs, 0⟩] scope pos) 0 (.ref it) (.ref D) (compEnvC scope cl u3.heap.objs.size X.env)) (compPost (model X.prog X.w) X.A X.xe none (EP X pins σ Q) (.ref D) u3.heap.objs.size) { u3 with heap := pushCells (u3.heap.push { cls := .type "dict", data := .dict #[] }) scope.names } := by
    rw [← hcl] at I4
    have cL : (compEnvC scope cl u3.heap.objs.size X.env).locals = u3.heap.objs.size := rfl
    generalize compEnvC scope cl u3.heap.objs.size X.env = ce at I4 pg pt pe pr cL ⊢
    have st4 : tn 0 ({ u3 with heap := pushCells (u3.heap.push { cls := .type "dict", data := .dict #[] }) scope.names } : Shared).heap :=
      T.keep _ _ _ st fun b _ o e => pushCells_keeps _ _ _ _ (Heap.get?_push_of_some _ (push3 b o e))
    generalize ({ u3 with heap := pushCells (u3.heap.push { cls := .type "dict", data := .dict #[] }) scope.names } : Shared) = u4 at I4 st4 ⊢
    refine codeAny_compStart_set ?_ (T.self X.A 0 _ _ _ st4 ?_) <;>
    · refine compLoopS_any (fun n v => ∃ i Hv, Inv (X.blk u3 HD scope ce fp) [] (wipe σ (own.map Prod.snd)) Hv v ∧ tn i v.heap ∧ (∀ b ∈ fp, Hv b = none) ∧ W i n Hv) ?_ m0 ⟨0, HD, I4, st4, nofp, w0⟩
      rintro n v ⟨i, Hv, Iv, stv, nv, wv⟩
      have fpk : ∀ {σ' : L2.St} {H' : Hp} {s' : Shared}, Inv (X.blk u3 HD scope ce fp) [] σ' H' s' → (∀ b ∈ fp, H' b = none) → ∀ b ∈ fp, FpOk (X.blk u3 HD scope ce fp) [] H' b := fun I' n' b hb =>
        ⟨n' b hb, (I'.ok.exf b hb).1, I'.ok.exfs b hb, .inl hb, fun y c e => (I'.ok.exf b hb).2 y c e, fun p hp => absurd (show p ∈ ([] : List (Addr × Obj)) ++ [] from hp) (by simp)⟩
      rcases turn i n Hv wv with ⟨stop, done⟩ | ⟨go, Nx, back, step⟩
      · refine thnF (T.done (X.blk u3 HD scope ce fp) rfl rfl rfl hc i [] v _ Hv (fun _ _ => False) Iv (fpk Iv nv) stv stop) fun y v' ⟨e, I6⟩ => ?_
        subst e
        have I7 : Inv X pins σ Hv v' := I3.call' (ch := fp) I6.os I6.base I6.hok I6.bare fun b hb => ⟨(hfp b hb).1.2.2.2.1, (hfp b hb).1.2.1, (hfp b hb).1.2.2.2.2.1, (hfp b hb).1.2.2.2.2.2⟩
        have nC : Hv u3.heap.objs.size = none := cL ▸ (I6.free : Hv ce.locals = none)
        obtain ⟨m, hm, _⟩ := I6.loc
        replace hm : v'.heap.Ns ce.locals m := hm
        rw [cL] at hm
        obtain ⟨f0, f1, f2, f3, f4, f5⟩ := I3.fpOk (Nat.le_refl _) nC
        exact ⟨m, hm, fun h'' sb => ⟨.ref D, Hv, I7.turned (t' := v'.toks) (fun b o hb e => (sb.2 b hb).trans e) f0 f1 f3 f4 f5, rfl, done⟩⟩
      · refine thnF (T.item (X.blk u3 HD scope ce fp) rfl rfl rfl hc i [] v _ Hv (fun _ _ => False) Iv (fpk Iv nv) stv go) fun y v1 ⟨z, e, h6⟩ => ?_
        subst e
        refine thnF h6 fun _ v2 ⟨x, H2, I2, r2, y2, st2, n2⟩ => ?_
        refine thnF (pg.run _ v2 _ H2 x z _ (I2.pinned (fpk I2 n2) (T.obj _ _ st2)) r2 (step x H2 y2)) fun _ v3 ⟨σ3, H3, I3', w3, q3⟩ => ?_
        refine thnF (pt.run _ v3 σ3 H3 _ I3' q3) fun b v4 ⟨H4, I4', q4⟩ => ?_
        have close : ∀ {v' : Shared} {H' : Hp}, Inv (X.blk u3 HD scope ce fp) ([] ++ pinsAt fp v2.heap) σ3 H' v' → Nx H' → ∃ m, m < n ∧ ∃ i H', Inv (X.blk u3 HD scope ce fp) [] (wipe σ (own.map Prod.snd)) H' v' ∧ tn i v'.heap ∧ (∀ b ∈ fp, H' b = none) ∧ W i m H' := fun {v' H'} I' nx => by
          obtain ⟨m', lt, w'⟩ := back H' nx
          have pinned : ∀ b ∈ fp, ∀ o, v2.heap.get? b = some o → v'.heap.get? b = some o ∧ H' b = none := fun b hb o e => by
            have := I'.pin (b, o) (List.mem_append_right _ (List.mem_append_right _ (mem_pinsAt hb e)))
            exact ⟨this.1, this.2.1⟩
          refine ⟨m', lt, i + 1, H', (I'.unpinned (pins := [])).weak (by rw [← w3, wipe_length]) (fun j y e => ?_), T.keep _ _ _ st2 fun b hb o e => (pinned b hb o e).1, fun b hb => ?_, w'⟩
          · rw [← w3] at e
            exact (wipe_some e).1
          · obtain ⟨o, e, _⟩ := T.obj _ _ st2 b hb
            exact (pinned b hb o e).2
        cases b with
        | false =>
          rw [if_neg (by decide)] at q4 ⊢
          exact close I4' q4
        | true =>
          rw [if_pos rfl] at q4 ⊢
          refine thnF (pe.run _ v4 σ3 H4 _ I4' q4) fun z5 v5 ⟨y5, H5, I5, r5, q5⟩ => ?_
          refine thnF (pr _ v5 σ3 H5 (.ref D) [y5] (.ref D) [z5] _ I5 rfl (.cons r5 .nil) q5) fun _ v6 ⟨y6, H6, I6, r6, q6⟩ => close I6 q6
  rw [hcl, hu3] at start
  exact start
end
end Vl
end
section
set_option maxRecDepth 100000
namespace Vl
open PySem L2

/-! ### len of a set comprehension -/
section
variable {K : PySem.W.Frag} {B F0 F H : Hp} {ρ : Rho} {σ : St} {a : Addr} {z z' : HO}
theorem RlF.wrB (h : RlF K (upd B a z) F0 F ρ σ H) (hF : F a = none) : RlF K (upd B a z') F0 F ρ σ (upd H a z') := by
  obtain ⟨A, e0, e1, e2, dm, o, nd, fr⟩ := h
  have ne : ∀ {b u}, F b = some u → b ≠ a := fun {b u} e x => by subst x; rw [hF] at e; cases e
  have nA : ∀ b ∈ A, b ≠ a := fun b hb x => by
    have := (fr b hb).2
    rw [x, upd_same] at this
    cases this
  refine ⟨A, e0, fun b u e => ?_, fun b u e => ?_, fun b u e => ?_, o.mono (Same.refl _) fun b hb u e => by rw [upd_ne (nA b hb)]; exact e, nd, fun b hb => ⟨(fr b hb).1, ?_⟩⟩
  · rcases e1 b u e with q | ⟨o, kvs, q1, q2⟩
    · exact .inl (by rw [upd_ne (ne e)]; exact q)
    · exact .inr ⟨o, kvs, q1, by rw [upd_ne (ne e)]; exact q2⟩
  · by_cases x : b = a
    · subst x
      rw [upd_same] at e
      exact .inl (by rw [upd_same]; exact e)
    · rw [upd_ne x] at e
      rcases e2 b u (by rw [upd_ne x]; exact e) with q | ⟨q0, o, kvs, q1, q2⟩
      · exact .inl (by rw [upd_ne x]; exact q)
      · exact .inr ⟨q0, o, kvs, q1, by rw [upd_ne x]; exact q2⟩
  · rcases dm b u e with q | q
    · exact .inl q
    · right
      rw [upd_ne (ne e)] at q ⊢
      exact q
  · have q := (fr b hb).2
    rw [upd_ne (nA b hb)] at q ⊢
    exact q
theorem Rl.inB (h : Rl K B F0 ρ σ H) (hH : H a = none) : ∃ F, RlF K (upd B a z) F0 F ρ σ (upd H a z) ∧ F a = none ∧ F0 a = none ∧ B a = none := by
  obtain ⟨F, A, e0, e1, e2, dm, o, nd, fr⟩ := h
  have hF : F a = none := e1.free hH
  have hF0 : F0 a = none := none_of_ne fun u q => by rw [e0 a u q] at hF; cases hF
  have hB : B a = none := e2.free hH
  have ne : ∀ {b u}, F b = some u → b ≠ a := fun {b u} e x => by subst x; rw [hF] at e; cases e
  have nA : ∀ b ∈ A, b ≠ a := fun b hb x => by
    obtain ⟨u, q⟩ := o.there b hb
    rw [x, hH] at q
    cases q
  refine ⟨F, ⟨A, e0, fun b u e => ?_, fun b u e => ?_, fun b u e => ?_, o.mono (Same.refl _) fun b hb u e => by rw [upd_ne (nA b hb)]; exact e, nd, fun b hb => ⟨(fr b hb).1, by rw [upd_ne (nA b hb)]; exact (fr b hb).2⟩⟩, hF, hF0, hB⟩
  · rcases e1 b u e with q | ⟨o, kvs, q1, q2⟩
    · exact .inl (by rw [upd_ne (ne e)]; exact q)
    · exact .inr ⟨o, kvs, q1, by rw [upd_ne (ne e)]; exact q2⟩
  · by_cases x : b = a
    · subst x
      rw [upd_same] at e
      exact .inl (by rw [upd_same]; exact e)
    · rw [upd_ne x] at e
      rcases e2 b u e with q | ⟨q0, o, kvs, q1, q2⟩
      · exact .inl (by rw [upd_ne x]; exact q)
      · exact .inr ⟨q0, o, kvs, q1, by rw [upd_ne x]; exact q2⟩
  · rcases dm b u e with q | q
    · exact .inl q
    · exact .inr (by rw [upd_ne (ne e)]; exact q)
theorem Rl.outB (h : Rl K (upd B a z) F0 ρ σ H) (hB : B a = none) : Rl K B F0 ρ σ H := by
  obtain ⟨F, A, e0, e1, e2, dm, o, nd, fr⟩ := h
  have up : ∀ {b}, upd B a z b = none → B b = none := fun {b} e => by
    by_cases x : b = a
    · rw [x]; exact hB
    · rwa [upd_ne x] at e
  refine ⟨F, A, e0, e1, fun b u e => e2 b u ?_, fun b u e => (dm b u e).imp id up, o, nd, fun b hb => ⟨(fr b hb).1, up (fr b hb).2⟩⟩
  rw [upd_ne (fun x => by rw [x, hB] at e; cases e)]
  exact e
theorem RlF.here (h : RlF K (upd B a z) F0 F ρ σ H) (hF : F a = none) : H a = some z := by
  obtain ⟨A, e0, e1, e2, dm, o, nd, fr⟩ := h
  rcases e2 a z upd_same with q | ⟨q, _⟩
  · exact q
  · rw [hF] at q; cases q
theorem RlF.stays (h : RlF K (upd B a z) F0 F ρ σ H) (hF : F0 a = none) : F a = none := none_of_ne fun u e => by
  obtain ⟨A, e0, e1, e2, dm, o, nd, fr⟩ := h
  rcases dm a u e with ⟨u', q⟩ | q
  · rw [hF] at q; cases q
  · rw [upd_same] at q; cases q
theorem RlF.sub (h : RlF K B F0 F ρ σ H) : Sub F H := by
  obtain ⟨A, e0, e1, _⟩ := h
  exact e1
theorem RlF.ext (h : RlF K B F0 F ρ σ H) : Same F0 F := by
  obtain ⟨A, e0, e1, _⟩ := h
  exact e0
end
section
variable {X : Cx} {tg it elt : Expr} {scope : Scope} {ρ ρ1 ρF : Rho} {n : Nat} {item : Nat → D} {pos p p2 : Pos} {mk : Addr → HO} {r : V → List V → Hp → VK → Prop}
theorem ev_lenS (own : List (Str × Nat)) (dv : Nat → D) (c : Int) (Ac : Nat → Hp → Addr → HO → Prop) (I : Nat → Rho → Prop) (g : Gd X) (hm : X.mg "len" = none) (hit : Iter X tg it ρ ρ1 n item) (ok : BlkOk X.N X.env.scope scope own)
    (hn : ∀ (H : Hp) (h : Heap), ObjOk X.prog X.w H (h.push (noSet X.w)) h.objs.size (mk h.objs.size)) (hr : InBlk X scope fun Y => MtR Y "set.add" r)
    (a0 : ∀ F D, Ac 0 F D (mk D)) (am : ∀ i F F' D u, Same F F' → Ac i F D u → Ac i F' D u)
    (as : ∀ i F D u y H (Nx : Hp → Prop), i < n → Ac i F D u → H D = some u → Sub F H → Den X.K F y (dv i) → (∀ u', Ac (i + 1) F D u' → Nx (upd H D u')) → r (.ref D) [y] H fun _ H5 => Nx H5)
    (af : ∀ F D u H Q, Ac n F D u → H D = some u → Q (.int c) H → rLenK X.prog X.w [.ref D] H Q)
    (hcl : Clean ρ1 (own.map Prod.snd)) (h0 : I 0 ρ1)
    (hs : ∀ i ρ', i < n → I i ρ' → ∃ ρ2 ρ4, InBlk X scope (fun Y => TgK Y (own.map Prod.snd) tg (item i) ρ' ρ2) ∧ InBlk X scope (fun Y => Ev Y elt ρ2 (.v (dv i)) ρ4) ∧ I (i + 1) (wipeR ρ4 (own.map Prod.snd)))
    (hd : ∀ ρ', I n ρ' → ρ' = ρF) (hfs : ∀ x, foldedSetIterable it X.env x = pure x := by intro _; rfl) (hg : Gl X "len" := by rfl)
    (he : starEach [.SetComp elt [⟨tg, it, [], 0⟩] scope p2] X.env = (false, eval (.SetComp elt [⟨tg, it, [], 0⟩] scope p2) X.env) :: starEach [] X.env := by rfl) :
    Ev X (.Call (.Name "len" p) [.SetComp elt [⟨tg, it, [], 0⟩] scope p2] [] pos) ρ (.v (.int c)) ρF := by
  obtain ⟨wi, hpi, hw⟩ := hit
  refine ev_of (pe_callB cr_lenK hg hm PySem.boot_len (pa_cons (pe_set (own := own) (g := fun v σ H Q => ∀ s H' C cl fp, tG (X.blk s H' scope (compEnvC scope cl C X.env) fp) tg v σ H Q) (te := fun σ H Q => ∀ s H' C cl fp, tE (X.blk s H' scope (compEnvC scope cl C X.env) fp) elt σ H Q) g.calm g.nd hpi ok hn hr
    (fun s H' C cl fp => ⟨fun pins s σ H v u Q I r h => (pg_u _ tg).run pins s σ H v u Q I r (h _ _ _ _ _)⟩) (fun s H' C cl fp => pts_nil) (fun s H' C cl fp => ⟨fun pins s σ H Q I h => (pe_u _ elt).run pins s σ H Q I (h _ _ _ _ _)⟩) hfs) pa_nil he)) fun B F0 st vst σ H Q hl R k => ?_
  refine hw B F0 st vst σ H _ hl R fun J B1 F1 H1 R1 Tn bk Dl hD => ?_
  have R1w := Rl.wipeOn (vs := own.map Prod.snd) R1 hl hcl
  obtain ⟨F, R2, hF, hF1, hB1⟩ := Rl.inB (z := mk Dl) R1w hD
  refine ⟨fun i m H' => m = n - i ∧ i ≤ n ∧ ∃ ρ' F u, I i ρ' ∧ Clean ρ' (own.map Prod.snd) ∧ F Dl = none ∧ Ac i F Dl u ∧ Same F1 F ∧ RlF X.K (upd B1 Dl u) F1 F (st ++ ρ') (vst ++ wipe σ (own.map Prod.snd)) H', ⟨n, by omega, Nat.zero_le _, ρ1, F, _, h0, hcl, hF, a0 _ _, R2.ext, R2⟩, ?_⟩
  rintro i m H' ⟨rfl, hle, ρ', F, u, hI, hcl', hF, hA, hS, R'⟩
  by_cases hlt : i < n
  · obtain ⟨g1, g2⟩ := Tn.go _ F i _ _ H' hS hlt R'.self.rl
    refine .inr ⟨g1, fun H2 => ∃ ρ' F u, I (i + 1) ρ' ∧ Clean ρ' (own.map Prod.snd) ∧ F Dl = none ∧ Ac (i + 1) F Dl u ∧ Same F1 F ∧ RlF X.K (upd B1 Dl u) F1 F (st ++ ρ') (vst ++ wipe σ (own.map Prod.snd)) H2, fun H2 h => ⟨n - (i + 1), by omega, rfl, by omega, h⟩, fun w H2 hy => ?_⟩
    obtain ⟨ρ2, ρ4, ht, hev, hI'⟩ := hs i ρ' hlt hI
    intro s' Hs C cl fp
    refine ht s' Hs C cl fp _ F st vst (wipe σ (own.map Prod.snd)) H2 w _ hl (g2 w H2 hy) fun σ2 H3 R3 wq => ?_
    have wq' : wipe σ2 (own.map Prod.snd) = wipe σ (own.map Prod.snd) := by
      rw [wq]
      have : ∀ (vs us : List Nat), (∀ x ∈ us, x ∈ vs) → wipe (wipe σ us) vs = wipe σ vs := by
        intro vs us
        induction us with
        | nil => intro _; rfl
        | cons u us ih =>
          intro h
          show wipe ((wipe σ us).set u none) vs = _
          rw [wipe_comm (h u (by simp)), ih fun x hx => h x (by simp [hx])]
      exact this _ _ fun x hx => hx
    refine ⟨wq', ?_⟩
    unfold tYes
    dsimp only
    rw [if_pos rfl]
    intro s3 Hs3 C3 cl3 fp3
    refine hev s3 Hs3 C3 cl3 fp3 _ F st vst σ2 H3 _ hl R3 fun y H5 R4 => ?_
    obtain ⟨F5, R5, hy5⟩ := R4.elimF
    have R6 := R'.re R5
    have hF5 := R6.stays hF1
    refine as i F5 Dl u y H5 _ hlt (am _ _ _ _ _ R5.ext hA) (R6.here hF5) R6.sub hy5 fun u' hu' => ?_
    have R7 : Rl X.K (upd B1 Dl u') F5 (st ++ ρ4) (vst ++ σ2) (upd H5 Dl u') := (R6.wrB (z' := u') hF5).self.rl
    obtain ⟨F7, R8⟩ := Rl.forgetN R7 hl (own.map Prod.snd)
    rw [wq'] at R8
    have R9 := (R6.wrB (z' := u') hF5).re R8
    exact ⟨_, F7, u', hI', wipeR_clean _ _, R9.stays hF1, am _ _ _ _ _ R8.ext hu', R9.ext, R9⟩
  · have e : i = n := by omega
    subst e
    have := hd ρ' hI
    subst this
    refine .inl ⟨Tn.stop _ F i _ _ H' hS (Nat.le_refl _) R'.self.rl, af F Dl u H' _ hA (R'.here hF) (k _ H' ?_)⟩
    exact (bk.rl _ _ _ (Rl.outB (Rl.wipeOff R'.rl hl hcl') hB1)).pushS fun _ => .int _
end
end Vl
end
section
set_option maxRecDepth 100000
namespace Vl
open PySem L2
theorem den_key {K : PySem.W.Frag} {F : Hp} {v : V} : ∀ {k : Key}, Den K F v (kD k) → v = kV k
  | .inl i, h => by cases h; rfl
  | .inr x, h => by cases h; rfl
theorem den_keys {K : PySem.W.Frag} {F : Hp} : ∀ {ks : List Key} {vs : List V}, DenL K F vs (ks.map kD) → vs = ks.map kV
  | [], _, .nil => rfl
  | _ :: _, _, .cons h t => by rw [den_key h, den_keys t]; rfl
section
variable {X : Cx} {tg it elt : Expr} {scope : Scope} {ρ ρ1 ρF : Rho} {n : Nat} {item : Nat → D} {pos p p2 : Pos}
/-- len({tuple of ints and texts for ..}) -/
theorem ev_lenT (own : List (Str × Nat)) (key : Nat → List Key) (c : Int) (I : Nat → Rho → Prop) (g : Gd X) (hm : X.mg "len" = none) (hit : Iter X tg it ρ ρ1 n item) (ok : BlkOk X.N X.env.scope scope own) (hz : n < 63)
    (hcl : Clean ρ1 (own.map Prod.snd)) (h0 : I 0 ρ1)
    (hs : ∀ i ρ', i < n → I i ρ' → ∃ ρ2 ρ4, InBlk X scope (fun Y => TgK Y (own.map Prod.snd) tg (item i) ρ' ρ2) ∧ InBlk X scope (fun Y => Ev Y elt ρ2 (.v (.tup ((key i).map kD))) ρ4) ∧ I (i + 1) (wipeR ρ4 (own.map Prod.snd)))
    (hd : ∀ ρ', I n ρ' → ρ' = ρF) (hc : ∀ L : List (List Key), L.Nodup → (∀ k, k ∈ L ↔ ∃ i, i < n ∧ key i = k) → (L.length : Int) = c)
    (hfs : ∀ x, foldedSetIterable it X.env x = pure x := by intro _; rfl) (hg : Gl X "len" := by rfl)
    (he : starEach [.SetComp elt [⟨tg, it, [], 0⟩] scope p2] X.env = (false, eval (.SetComp elt [⟨tg, it, [], 0⟩] scope p2) X.env) :: starEach [] X.env := by rfl) :
    Ev X (.Call (.Name "len" p) [.SetComp elt [⟨tg, it, [], 0⟩] scope p2] [] pos) ρ (.v (.int c)) ρF :=
  ev_lenS own (mk := fun D => KSo X.prog X.w D []) (r := rAddT X.K X.prog X.w) (fun i => .tup ((key i).map kD)) c
    (fun i F D u => ∃ L : KL, u = KSo X.prog X.w D L ∧ L.length ≤ i ∧ (∀ q ∈ L, Den X.K F (.ref q.1) (.tup (q.2.map kD))) ∧ (L.map Prod.snd).Nodup ∧ ∀ k, k ∈ L.map Prod.snd ↔ ∃ j, j < i ∧ key j = k) I g hm hit ok
    (fun H h => kso_ok (kset_new X.w)) (fun s H C cl fp => mt_addT (X := X.blk s H scope (compEnvC scope cl C X.env) fp) g.hu)
    (fun F D => ⟨[], rfl, Nat.le_refl _, by simp, by simp, by simp⟩)
    (fun i F F' D u sm ⟨L, h1, h2, h3, h4, h5⟩ => ⟨L, h1, h2, fun q hq => (h3 q hq).mono sm, h4, h5⟩)
    (fun i F D u y H Nx hi ⟨L, h1, h2, h3, h4, h5⟩ hD sb hy nx => by
      subst h1
      have tupH : ∀ {b : Addr} {ks : List Key}, Den X.K F (.ref b) (.tup (ks.map kD)) → SqT X.K H b (ks.map kV) := fun {b ks} h => by
        cases h with
        | tup h q => rw [den_keys q] at h; exact SqT.of (sb.t h)
      cases hy with
      | @tup b xs _ hq q =>
        have hb : Den X.K F (.ref b) (.tup ((key i).map kD)) := .tup hq q
        refine ⟨D, b, key i, L, rfl, rfl, hD, fun p hp => tupH (h3 p hp), tupH hb, by omega, fun L' o1 o2 => nx _ ?_⟩
        by_cases hk : key i ∈ L.map Prod.snd
        · rw [o1 hk]
          refine ⟨L, rfl, by omega, h3, h4, fun k => ⟨fun z => ?_, fun ⟨j, hj, e⟩ => ?_⟩⟩
          · obtain ⟨j, hj, e⟩ := (h5 k).1 z
            exact ⟨j, by omega, e⟩
          · by_cases e' : j = i
            · rw [← e, e']; exact hk
            · exact (h5 k).2 ⟨j, by omega, e⟩
        · have pm := o2 hk
          have pk := pm.map Prod.snd
          refine ⟨L', rfl, by rw [pm.length_eq]; simp; omega, fun q hq' => ?_, pk.nodup_iff.mpr (List.nodup_cons.mpr ⟨hk, h4⟩), fun k => ?_⟩
          · rcases List.mem_cons.mp (pm.mem_iff.mp hq') with e | e
            · rw [e]; exact hb
            · exact h3 q e
          · rw [pk.mem_iff, List.map_cons, List.mem_cons, h5]
            constructor
            · rintro (e | ⟨j, hj, e⟩)
              · exact ⟨i, by omega, e.symm⟩
              · exact ⟨j, by omega, e⟩
            · rintro ⟨j, hj, e⟩
              by_cases e' : j = i
              · left; rw [← e, e']
              · exact .inr ⟨j, by omega, e⟩)
    (fun F D u H Q ⟨L, h1, h2, h3, h4, h5⟩ hD q => by
      subst h1
      refine ⟨D, rfl, .inl ⟨L, hD, ?_⟩⟩
      have := hc (L.map Prod.snd) h4 h5
      rw [List.length_map] at this
      rw [this]
      exact q) hcl h0 hs hd hfs hg he
/-- len({int for ..}) -/
theorem ev_lenI (own : List (Str × Nat)) (key : Nat → Int) (c : Int) (I : Nat → Rho → Prop) (g : Gd X) (hm : X.mg "len" = none) (hit : Iter X tg it ρ ρ1 n item) (ok : BlkOk X.N X.env.scope scope own) (hz : n < 63)
    (hcl : Clean ρ1 (own.map Prod.snd)) (h0 : I 0 ρ1)
    (hs : ∀ i ρ', i < n → I i ρ' → ∃ ρ2 ρ4, InBlk X scope (fun Y => TgK Y (own.map Prod.snd) tg (item i) ρ' ρ2) ∧ InBlk X scope (fun Y => Ev Y elt ρ2 (.v (.int (key i))) ρ4) ∧ I (i + 1) (wipeR ρ4 (own.map Prod.snd)))
    (hd : ∀ ρ', I n ρ' → ρ' = ρF) (hc : ∀ L : List Int, L.Nodup → (∀ k, k ∈ L ↔ ∃ i, i < n ∧ key i = k) → (L.length : Int) = c)
    (hfs : ∀ x, foldedSetIterable it X.env x = pure x := by intro _; rfl) (hg : Gl X "len" := by rfl)
    (he : starEach [.SetComp elt [⟨tg, it, [], 0⟩] scope p2] X.env = (false, eval (.SetComp elt [⟨tg, it, [], 0⟩] scope p2) X.env) :: starEach [] X.env := by rfl) :
    Ev X (.Call (.Name "len" p) [.SetComp elt [⟨tg, it, [], 0⟩] scope p2] [] pos) ρ (.v (.int c)) ρF :=
  ev_lenS own (mk := fun D => SetO X.w D (fun _ => false) 0) (r := rSAdd X.w) (fun i => .int (key i)) c
    (fun i F D u => ∃ (S : Int → Bool) (L : List Int), u = SetO X.w D S L.length ∧ L.length ≤ i ∧ L.Nodup ∧ (∀ k, S k = true ↔ k ∈ L) ∧ ∀ k, k ∈ L ↔ ∃ j, j < i ∧ key j = k) I g hm hit ok
    (fun H h => setO_new (setR_fresh X.w)) (fun s H C cl fp => mt_sadd (X := X.blk s H scope (compEnvC scope cl C X.env) fp))
    (fun F D => ⟨_, [], rfl, Nat.le_refl _, by simp, by simp, by simp⟩)
    (fun i F F' D u sm h => h)
    (fun i F D u y H Nx hi ⟨S, L, h1, h2, h3, h4, h5⟩ hD sb hy nx => by
      subst h1
      cases hy
      have sc : (64 : Nat) < scanBound := by decide
      refine ⟨D, key i, S, L.length, rfl, rfl, hD, by omega, nx _ ?_⟩
      by_cases hk : key i ∈ L
      · rw [if_pos ((h4 _).2 hk)]
        refine ⟨_, L, rfl, by omega, h3, fun k => ?_, fun k => ⟨fun z => ?_, fun ⟨j, hj, e⟩ => ?_⟩⟩
        · simp only [Bool.or_eq_true, decide_eq_true_eq, h4]
          exact ⟨fun z => z.elim id fun e => e ▸ hk, .inl⟩
        · obtain ⟨j, hj, e⟩ := (h5 k).1 z
          exact ⟨j, by omega, e⟩
        · by_cases e' : j = i
          · rw [← e, e']; exact hk
          · exact (h5 k).2 ⟨j, by omega, e⟩
      · rw [if_neg fun z => hk ((h4 _).1 z)]
        refine ⟨_, key i :: L, rfl, by simp; omega, List.nodup_cons.mpr ⟨hk, h3⟩, fun k => ?_, fun k => ?_⟩
        · simp only [Bool.or_eq_true, decide_eq_true_eq, h4, List.mem_cons]
          exact Or.comm
        · rw [List.mem_cons, h5]
          constructor
          · rintro (e | ⟨j, hj, e⟩)
            · exact ⟨i, by omega, e.symm⟩
            · exact ⟨j, by omega, e⟩
          · rintro ⟨j, hj, e⟩
            by_cases e' : j = i
            · left; rw [← e, e']
            · exact .inr ⟨j, by omega, e⟩)
    (fun F D u H Q ⟨S, L, h1, h2, h3, h4, h5⟩ hD q => by
      subst h1
      refine ⟨D, rfl, .inr ⟨S, L.length, hD, by omega, ?_⟩⟩
      rw [hc L h3 h5]
      exact q) hcl h0 hs hd hfs hg he
end
end Vl
end
section
set_option maxRecDepth 100000
set_option maxHeartbeats 2000000
/-! sorted of tuples whose items are ints and texts, each place of one kind -/
namespace Vl
open PySem PyProof.Rows L2 SrtO
abbrev IL := List (Int ⊕ List Nat)
def kI : Key → Int ⊕ List Nat
  | .inl i => .inl i
  | .inr x => .inr x.cps.toList
/-- a stands before b -/
def ltK (a b : List Key) : Bool := lexLt itemOrd (a.map kI) (b.map kI)
def ShK (sh : Nat → Bool) (i : Nat) (k : List Key) : Prop := ∀ (j : Nat) (y : Key), k[j]? = some y → y.isRight = sh (i + j)
theorem lex_asym {O : KeyOrd} {a b : List O.α} (h : lexLt O a b = true) : lexLt O b a = false := by
  cases e : lexLt O b a with
  | false => rfl
  | true =>
    have := lex_trans a b a h e
    rw [lex_irrefl] at this
    cases this
theorem lex_down {O : KeyOrd} {a b c : List O.α} (h1 : lexLt O b a = false) (h2 : lexLt O c b = false) : lexLt O c a = false := by
  cases e : lexLt O c a with
  | false => rfl
  | true =>
    rcases lex_negTrans c b a e with z | z
    · rw [h2] at z; cases z
    · rw [h1] at z; cases z
theorem swo_of (f : Value → IL) : Swo fun v u => lexLt itemOrd (f v) (f u) := ⟨fun _ _ => lex_asym, fun _ _ _ => lex_down⟩
/-- what stands at v -/
def TupAt (h : Heap) (sh : Nat → Bool) (v : Value) (l : IL) : Prop := ∃ a o xs n f, v = .ref a ∧ h.get? a = some o ∧ o.cls = .type "tuple" ∧ o.data = .seq xs n ∧ xs[0]? = some f ∧ tupItems sh 0 xs.toList = some l
theorem TupAt.key {h : Heap} {sh : Nat → Bool} {v : Value} {l : IL} (x : TupAt h sh v l) : tupKey h sh v = some l := by
  obtain ⟨a, o, xs, n, f, rfl, ho, hc, hd, hf, hi⟩ := x
  simp only [tupKey, ho, hd, hi]
theorem TupAt.keep {h h' : Heap} {sh : Nat → Bool} {v : Value} {l : IL} (x : TupAt h sh v l) (k : ∀ b o, h.get? b = some o → o.cls = .type "tuple" → h'.get? b = some o) : TupAt h' sh v l := by
  obtain ⟨a, o, xs, n, f, e, ho, hc, hd, hf, hi⟩ := x
  exact ⟨a, o, xs, n, f, e, k a o ho hc, hc, hd, hf, hi⟩
theorem TupAt.of {h : Heap} {sh : Nat → Bool} {v : Value} {l : IL} (x : TupAt h sh v l) : ∃ f, TupOf h sh v f := by
  obtain ⟨a, o, xs, n, f, e, ho, hc, hd, hf, hi⟩ := x
  refine ⟨f, a, o, xs, n, e, ho, hc, hd, hf, ?_⟩
  have hx : ∃ r, xs.toList = f :: r := by
    rw [← Array.getElem?_toList] at hf
    cases hx : xs.toList with
    | nil => rw [hx] at hf; cases hf
    | cons g r => rw [hx] at hf; cases hf; exact ⟨r, rfl⟩
  obtain ⟨r, hx⟩ := hx
  rw [hx] at hi
  constructor <;> intro hs
  · obtain ⟨n, t, _, e, _⟩ := tupItems_int hs hi
    exact ⟨n, t, e⟩
  · obtain ⟨x, t, _, e, _⟩ := tupItems_str hs hi
    exact ⟨x, t, e⟩
theorem items_of {sh : Nat → Bool} : ∀ {k : List Key} {us : List Value} (i : Nat), Vals (k.map kV) us → ShK sh i k → tupItems sh i us = some (k.map kI)
  | [], _, _, .nil, _ => by simp [tupItems]
  | .inl n :: k, _ :: us, i, .cons r t, s => by
    obtain ⟨tk, rfl⟩ := r
    have h0 : sh i = false := (s 0 _ rfl).symm
    have ih := items_of (i + 1) t fun j y e => by
      have := s (j + 1) y (by simpa using e)
      rw [this]; congr 1; omega
    simp [tupItems, h0, ih, kI]
  | .inr n :: k, _ :: us, i, .cons r t, s => by
    obtain ⟨tk, rfl⟩ := r
    have h0 : sh i = true := (s 0 _ rfl).symm
    have ih := items_of (i + 1) t fun j y e => by
      have := s (j + 1) y (by simpa using e)
      rw [this]; congr 1; omega
    simp [tupItems, h0, ih, kI]
theorem tups_of {h : Heap} {sh : Nat → Bool} : ∀ {vs : List Value}, (∀ v ∈ vs, ∃ l, TupAt h sh v l) → ∃ fs, TupsOf h sh vs fs ∧ fs.length = vs.length
  | [], _ => ⟨[], .nil, rfl⟩
  | v :: vs, hv => by
    obtain ⟨l, x⟩ := hv v (by simp)
    obtain ⟨f, y⟩ := x.of
    obtain ⟨fs, z, e⟩ := tups_of (vs := vs) fun u hu => hv u (List.mem_cons_of_mem _ hu)
    exact ⟨f :: fs, .cons y z, by simp [e]⟩
section
variable {P : Program} {w : World} {A : Around} {s : Shared}
theorem mixed_sortable {a : Addr} {sh : Nat → Bool} {vs : List Value} {f : Value → IL} (h0 : 0 < vs.length) (hp : ∀ v ∈ vs, TupAt s.heap sh v (f v)) (ha : ∀ o, s.heap.get? a = some o → o.cls ≠ .type "tuple") :
    SortableO P w A s a vs fun v u => lexLt itemOrd (f v) (f u) := by
  intro h' keep
  have hp' : ∀ v ∈ vs, TupAt h' sh v (f v) := fun v hv => (hp v hv).keep fun b o e c => keep b o (fun z => by subst z; exact ha o e c) e
  obtain ⟨fs, ht, hl⟩ := tups_of fun v hv => ⟨_, hp' v hv⟩
  refine ⟨tuples' true, fun Q E hq => tup_kind (s := { s with heap := h' }) (by omega) ht hq, fun p q hm hm' => ?_⟩
  exact tup_ltAt (s := { s with heap := h' }) true A _ p.1 q.1 (f p.1) (f q.1) (hp' _ hm).key (hp' _ hm').key ⟨rfl, rfl⟩
end
section
variable {X : Cx}
/-- sorted(xs), xs a list of such tuples: κ says of each what stands in it -/
def rSortM (K : PySem.W.Frag) (sh : Nat → Bool) : List V → Hp → VK → Prop := fun vs H Q => ∃ (a : Addr) (xs : List V) (κ : V → List Key), vs = [V.ref a] ∧ SqL K H a xs ∧ (∀ x ∈ xs, ∃ t, x = .ref t ∧ SqT K H t ((κ x).map kV) ∧ ShK sh 0 (κ x) ∧ κ x ≠ []) ∧
  ∀ (ys : List V) (p : Addr), ys.Perm xs → ys.Pairwise (fun x y => ltK (κ y) (κ x) = false) → H p = none → Q (.ref p) (upd H p (.lst ys))
theorem cr_sortM (sh : Nat → Bool) : CallR X (.builtin "sorted") (rSortM X.K sh) := by
  rintro pins s σ H vs us Q I r ⟨a, xs, κ, rfl, hs, hx, q⟩
  obtain ⟨its, rv, hl, hz⟩ := I.list hs
  rw [Vals.ref1 r]
  obtain ⟨e1, e2⟩ := bkV_refs rv fun x m => let ⟨t, e, _⟩ := hx x m; ⟨t, e⟩
  have tup : ∀ v ∈ its, TupAt s.heap sh v ((κ (bkV v)).map kI) := fun v hv => by
    obtain ⟨t, rfl⟩ := e2 v hv
    obtain ⟨t', e, ht, hsh, hne⟩ := hx (V.ref t) (by rw [e1]; exact List.mem_map.mpr ⟨_, hv, rfl⟩)
    cases e
    obtain ⟨us, ru, ⟨o, ho, hc, n, hd⟩, _⟩ := I.tuple ht
    cases us with
    | nil =>
      cases hk : κ (V.ref t) with
      | nil => exact absurd hk hne
      | cons y l => rw [hk] at ru; cases ru
    | cons u us => exact ⟨t, o, (u :: us).toArray, n, u, rfl, ho, hc, hd, rfl, items_of 0 ru hsh⟩
  refine sorted_ord (ltv := fun v u => lexLt itemOrd ((κ (bkV v)).map kI) ((κ (bkV u)).map kI)) (swo_of fun v => (κ (bkV v)).map kI) (vs := its) hl.isList ?_ (fun h2 h₁ b hb kk => ?_) fun out h1 h2 => ?_
  · rw [← rv.length]; exact hz
  · refine mixed_sortable (s := { s with heap := h₁ }) (f := fun v => (κ (bkV v)).map kI) (by omega) (fun v hv => (tup v hv).keep fun c o e _ => (kk c o e).2) fun o e c => ?_
    rw [hb] at e
    cases e
    exact absurd (Value.type.inj c) (by decide)
  · obtain ⟨ep, he'⟩ := PyProof.Rows.sortedAll_at s.heap its out.toArray
    have h3 : ∀ u ∈ out, ∃ a, u = Value.ref a := fun u hu => e2 u (h2.perm.mem_iff.mp hu)
    have hp : (out.map bkV).Perm xs := by
      rw [e1]
      exact h2.perm.map bkV
    refine ⟨.ref _, upd H (s.heap.objs.size + 1) (.lst (out.map bkV)), I.laid (t' := s.toks) (fun _ _ => PyProof.Rows.sortedAll_old) (Nat.le_succ _) ⟨by rw [hp.length_eq]; exact hz, out, ep, bkV_vals h3, he'⟩, rfl, q _ _ hp ?_ (I.hok.fresh (Nat.le_succ _))⟩
    exact List.pairwise_map.mpr h1
end
end Vl
end
section
set_option maxRecDepth 100000
namespace Vl
open PySem L2
/-- a tuple of ints and texts -/
def tK (k : List Key) : D := .tup (k.map kD)
theorem kV_inj : ∀ {x y : Key}, kV x = kV y → x = y
  | .inl _, .inl _, h => by cases h; rfl
  | .inr _, .inr _, h => by cases h; rfl
  | .inl _, .inr _, h => by cases h
  | .inr _, .inl _, h => by cases h
theorem kVs_inj : ∀ {x y : List Key}, x.map kV = y.map kV → x = y
  | [], [], _ => rfl
  | [], _ :: _, h => by simp at h
  | _ :: _, [], h => by simp at h
  | a :: x, b :: y, h => by
    rw [List.map_cons, List.map_cons, List.cons.injEq] at h
    rw [kV_inj h.1, kVs_inj h.2]
theorem den_tK {K : PySem.W.Frag} {F : Hp} {v : V} {k : List Key} (h : Den K F v (tK k)) : ∃ t, v = .ref t ∧ F t = some (.tup (k.map kV)) := by
  cases h with
  | tup hq q => exact ⟨_, rfl, by rw [den_keys q] at hq; exact hq⟩
theorem den_tK_inj {K : PySem.W.Frag} {F : Hp} {v : V} {k k' : List Key} (h : Den K F v (tK k)) (h' : Den K F v (tK k')) : k = k' := by
  obtain ⟨t, rfl, e⟩ := den_tK h
  obtain ⟨t', e0, e'⟩ := den_tK h'
  cases e0
  rw [e] at e'
  injection e' with e'
  injection e' with e'
  exact kVs_inj e'
open Classical in
noncomputable def keyAt (K : PySem.W.Frag) (F : Hp) (v : V) : List Key := if h : ∃ k, Den K F v (tK k) then h.choose else []
theorem keyAt_eq {K : PySem.W.Frag} {F : Hp} {v : V} {k : List Key} (h : Den K F v (tK k)) : keyAt K F v = k := by
  have hx : ∃ k, Den K F v (tK k) := ⟨k, h⟩
  unfold keyAt
  rw [dif_pos hx]
  exact den_tK_inj hx.choose_spec h
theorem keysAt {K : PySem.W.Frag} {F : Hp} : ∀ {xs : List V} {ks : List (List Key)}, DenL K F xs (ks.map tK) → xs.map (keyAt K F) = ks ∧ ∀ x ∈ xs, Den K F x (tK (keyAt K F x))
  | [], [], _ => ⟨rfl, fun x hx => by cases hx⟩
  | x :: xs, k :: ks, h => by
    cases h with
    | cons h1 h2 =>
      obtain ⟨e1, e2⟩ := keysAt h2
      have e0 := keyAt_eq h1
      refine ⟨by rw [List.map_cons, e0, e1], fun y hy => ?_⟩
      rcases List.mem_cons.mp hy with e | hy
      · subst e; rw [e0]; exact h1
      · exact e2 y hy
  | [], _ :: _, h => by cases h
  | _ :: _, [], h => by cases h
theorem den_all {K : PySem.W.Frag} {F : Hp} : ∀ {ys : List V}, (∀ x ∈ ys, Den K F x (tK (keyAt K F x))) → DenL K F ys ((ys.map (keyAt K F)).map tK)
  | [], _ => .nil
  | y :: ys, h => .cons (h y (by simp)) (den_all fun x hx => h x (by simp [hx]))
theorem kI_inj : ∀ {x y : Key}, kI x = kI y → x = y
  | .inl _, .inl _, h => by cases h; rfl
  | .inr a, .inr b, h => by
    injection h with h
    cases a; cases b
    simp only [Array.toList_inj] at h
    rw [h]
  | .inl _, .inr _, h => by cases h
  | .inr _, .inl _, h => by cases h
theorem kIs_inj : ∀ {x y : List Key}, x.map kI = y.map kI → x = y
  | [], [], _ => rfl
  | [], _ :: _, h => by simp at h
  | _ :: _, [], h => by simp at h
  | a :: x, b :: y, h => by
    rw [List.map_cons, List.map_cons, List.cons.injEq] at h
    rw [kI_inj h.1, kIs_inj h.2]
theorem ltK_total {a b : List Key} (h1 : ltK a b = false) (h2 : ltK b a = false) : a = b := kIs_inj (PyProof.Rows.lex_total _ _ h1 h2)
section
variable {X : Cx} {e : Expr} {ρ ρ1 : Rho} {r : T} {p pos : Pos}
theorem ev_sortedM {ks ms : List (List Key)} (sh : Nat → Bool) (ha : EvA X [e] ρ [r] ρ1) (hr : r.d = .lst (ks.map tK)) (h1 : ms.Perm ks) (h2 : ms.Pairwise fun a b => ltK b a = false) (hs : ∀ k ∈ ks, ShK sh 0 k ∧ k ≠ [])
    (hm : X.mg "sorted" = none) (hg : Gl X "sorted" := by rfl) (he : starEach [e] X.env = (false, eval e X.env) :: starEach [] X.env := by rfl) : Ev X (.Call (.Name "sorted" p) [e] [] pos) ρ (.lst (ms.map fun k => .v (tK k))) ρ1 := by
  have := ev_callBL (us := ms.map tK) (p := p) (pos := pos) (cr_sortM sh) hm PyProof.Rows.boot_sorted ha (fun F H vs Q eF h k => by
    obtain ⟨v, rfl, hd⟩ := denl1 h
    rw [hr] at hd
    cases hd with
    | @lst a xs _ hq q =>
      obtain ⟨g1, g2⟩ := keysAt q
      refine ⟨_, xs, keyAt X.K F, rfl, eF.sqL hq, fun x hx => ?_, fun ys p pm srt hp => ?_⟩
      · obtain ⟨t, e1, e2⟩ := den_tK (g2 x hx)
        have hk : keyAt X.K F x ∈ ks := by rw [← g1]; exact List.mem_map.mpr ⟨x, hx, rfl⟩
        exact ⟨t, e1, SqT.of (eF.t e2), hs _ hk⟩
      · have hy : ∀ x ∈ ys, Den X.K F x (tK (keyAt X.K F x)) := fun x hx => g2 x (pm.mem_iff.mp hx)
        have : ys.map (keyAt X.K F) = ms := List.Perm.eq_of_pairwise (le := fun a b => ltK b a = false) (fun a b _ _ u1 u2 => ltK_total u2 u1) (List.pairwise_map.mpr srt) h2 ((pm.map _).trans (by rw [g1]; exact h1.symm))
        rw [← this] at k
        exact k ys p (den_all hy) hp) hg (he := he)
  simpa [List.map_map, Function.comp_def] using this
/-- sorted(xs) of texts -/
theorem ev_sortedS {ns ms : List Str} (ha : EvA X [e] ρ [r] ρ1) (hr : r.d = .lst (ns.map D.str)) (hz : ns.length < 64) (hu : ∀ ys : List Str, ys.Perm ns → PyProof.Rows.sortedS ys = true → ys = ms)
    (hm : X.mg "sorted" = none) (hg : Gl X "sorted" := by rfl) (he : starEach [e] X.env = (false, eval e X.env) :: starEach [] X.env := by rfl) : Ev X (.Call (.Name "sorted" p) [e] [] pos) ρ (.lst (ms.map fun n => .v (.str n))) ρ1 := by
  have := ev_callBL (us := ms.map D.str) (p := p) (pos := pos) cr_sortedS hm PyProof.Rows.boot_sorted ha (fun F H vs Q eF h k => by
    obtain ⟨v, rfl, hd⟩ := denl1 h
    rw [hr] at hd
    cases hd with
    | lst hq q => exact ⟨_, ns, rfl, by rw [← den_strs q]; exact eF.sqL hq, hz, fun ys p g1 g2 hp => by
        rw [hu ys g1 g2]
        exact k _ p (strs_den _) hp⟩) hg (he := he)
  simpa [List.map_map, Function.comp_def] using this
end
end Vl
end
section
set_option maxRecDepth 100000
namespace Vl
open PySem L2
theorem upd_self {H : Hp} {a : Addr} {o : HO} (h : H a = some o) : upd H a o = H := by
  funext b
  by_cases e : b = a
  · subst e; rw [upd_same, h]
  · rw [upd_ne e]
section
variable {K : PySem.W.Frag} {B F0 F F' H H' : Hp} {ρ ρ' st : Rho} {σ σ' vst : St} {v y : V} {d : D} {t t1 r u u' : T} {i j : Nat} {ts ts' : List T} {us : List T} {ws : List V}
/-- the part j, taken out -/
theorem OwnL.split {b : Addr} : ∀ {xs : List V} {ts : List T} {A : List Addr} (j : Nat), OwnL K F H xs ts A → ts[j]? = some u → xs[j]? = some (.ref b) → ∃ B1 B2, Own K F H (.ref b) u B1 ∧ OwnL K F H xs (ts.set j (.v (.ref b))) B2 ∧ A.Perm (B1 ++ B2)
  | _, _, _, _, .nil, e, _ => by simp at e
  | _, _, _, 0, .cons (A := A1) (B := A2) h q, e, e2 => by
    simp at e e2
    subst e e2
    exact ⟨A1, A2, h, .cons (A := []) (.v (.ref b)) q, List.Perm.refl _⟩
  | _, _, _, j + 1, .cons (A := A1) (B := A2) h q, e, e2 => by
    obtain ⟨B1, B2, o1, o2, p⟩ := OwnL.split j q (by simpa using e) (by simpa using e2)
    refine ⟨B1, A1 ++ B2, o1, .cons h o2, ?_⟩
    have p1 : (A1 ++ A2).Perm (A1 ++ (B1 ++ B2)) := p.append_left A1
    refine p1.trans ?_
    rw [← List.append_assoc, ← List.append_assoc]
    exact List.Perm.append_right B2 List.perm_append_comm
theorem OwnL.join {b : Addr} : ∀ {xs : List V} {ts : List T} {A C : List Addr} (j : Nat), OwnL K F H xs ts A → ts[j]? = some (.v (.ref b)) → Own K F H (.ref b) u C → ∃ A', OwnL K F H xs (ts.set j u) A' ∧ A'.Perm (A ++ C)
  | _, _, _, _, _, .nil, e, _ => by simp at e
  | _, _, _, C, 0, .cons (A := A1) (B := A2) h q, e, o => by
    simp at e
    subst e
    cases h with
    | v hd => cases hd; exact ⟨C ++ A2, .cons o q, List.perm_append_comm⟩
  | _, _, _, C, j + 1, .cons (A := A1) (B := A2) h q, e, o => by
    obtain ⟨A', o', p⟩ := OwnL.join j q (by simpa using e) o
    exact ⟨A1 ++ A', .cons h o', by rw [List.append_assoc]; exact p.append_left A1⟩
/-- a part of an owned list put back -/
theorem Rl.join {b : Addr} (h : Rl K B F0 (some (.at_ b u) :: ρ) (some v :: σ) H) (hi : ρ[i]? = some (some t1)) (ht : t1 = .lst ts ∨ ∃ a, t1 = .at_ a (.lst ts)) (hj : ts[j]? = some (.v (.ref b))) :
    Rl K B F0 (ρ.set i (some (reT t1 (.lst (ts.set j u))))) σ H := by
  have h' : Rl K B F0 ([T.at_ b u].map some ++ ρ) ([v].map some ++ σ) H := h
  obtain ⟨a, xs, e1, e2, e3, _, k⟩ := h'.write (i := i) rfl hi ht
  have := k xs (ts.set j u) fun F H' A C o1 o2 => by
    cases o2 with
    | cons o3 o4 =>
      cases o4
      cases o3 with
      | at_ o3 =>
        obtain ⟨A', o5, p⟩ := o1.join j hj o3
        exact ⟨A', o5, by simpa using Less.of_perm p⟩
  rwa [upd_self e2] at this
/-- a part of an owned list taken out: it stands at the head -/
theorem Rl.split (h : Rl K B F0 ρ σ H) (hi : ρ[i]? = some (some t1)) (ht : t1 = .lst ts ∨ ∃ a, t1 = .at_ a (.lst ts)) (hj : ts[j]? = some u) (hu : ∀ d, u ≠ .v d) (hu2 : ∀ a t, u ≠ .at_ a t) :
    ∃ a b xs, σ[i]? = some (some (.ref a)) ∧ H a = some (.lst xs) ∧ xs.length = ts.length ∧ xs[j]? = some (.ref b) ∧ Rl K B F0 (some (.at_ b u) :: ρ.set i (some (reT t1 (.lst (ts.set j (.v (.ref b))))))) (some (.ref b) :: σ) H := by
  obtain ⟨F, A, e0, e1, e2, dm, o, nd, fr⟩ := h
  obtain ⟨v, A1, A2, A3, e3, rfl, o3, k, _⟩ := o.at hi
  have key : ∀ {a : Addr} {A2 : List Addr}, Own K F H (.ref a) (.lst ts) A2 → ∃ b xs B1 B2, H a = some (.lst xs) ∧ xs.length = ts.length ∧ xs[j]? = some (.ref b) ∧ Own K F H (.ref b) u B1 ∧ Own K F H (.ref a) (.lst (ts.set j (.v (.ref b)))) B2 ∧ A2.Perm (B1 ++ B2) := fun {a A2} o => by
    cases o with
    | @lst _ xs _ A' hH q =>
      obtain ⟨x, B, hx, ox, _⟩ := q.getI hj
      obtain ⟨b, rfl⟩ : ∃ b, x = .ref b := by
        cases ox with
        | v hd => exact absurd rfl (hu _)
        | at_ => exact absurd rfl (hu2 _ _)
        | lst => exact ⟨_, rfl⟩
        | dic => exact ⟨_, rfl⟩
        | dit => exact ⟨_, rfl⟩
        | obj => exact ⟨_, rfl⟩
      obtain ⟨B1, B2, o1, o2, p⟩ := q.split j hj hx
      refine ⟨b, xs, B1, a :: B2, hH, q.len, hx, o1, .lst hH o2, ?_⟩
      have p1 : (a :: A').Perm (a :: (B1 ++ B2)) := p.cons a
      exact p1.trans List.perm_middle.symm
  have fin : ∀ {a b : Addr} {xs : List V} {t' : T} {B1 B2 : List Addr}, v = .ref a → H a = some (.lst xs) → xs.length = ts.length → xs[j]? = some (.ref b) → Own K F H (.ref b) u B1 → Own K F H v t' B2 → A2.Perm (B1 ++ B2) → t' = reT t1 (.lst (ts.set j (.v (.ref b)))) →
      ∃ a b xs, σ[i]? = some (some (.ref a)) ∧ H a = some (.lst xs) ∧ xs.length = ts.length ∧ xs[j]? = some (.ref b) ∧ Rl K B F0 (some (.at_ b u) :: ρ.set i (some (reT t1 (.lst (ts.set j (.v (.ref b))))))) (some (.ref b) :: σ) H := by
    intro a b xs t' B1 B2 ev hH hl hx o1 o2 p et
    subst ev et
    have oS := k F H _ _ B2 (Same.refl _) (fun _ _ _ e => e) o2
    have es : σ.set i (some (.ref a)) = σ := set_self e3
    rw [es] at oS
    have pm : (B1 ++ (A1 ++ (B2 ++ A3))).Perm (A1 ++ (A2 ++ A3)) := by
      have q1 : (A2 ++ A3).Perm (B1 ++ B2 ++ A3) := p.append_right A3
      have q2 : (A1 ++ (A2 ++ A3)).Perm (A1 ++ (B1 ++ B2 ++ A3)) := q1.append_left A1
      refine List.Perm.symm (q2.trans ?_)
      have q3 : (A1 ++ (B1 ++ B2 ++ A3)) = (A1 ++ B1) ++ (B2 ++ A3) := by simp [List.append_assoc]
      have q4 : (B1 ++ (A1 ++ (B2 ++ A3))) = (B1 ++ A1) ++ (B2 ++ A3) := by simp [List.append_assoc]
      rw [q3, q4]
      exact List.Perm.append_right (B2 ++ A3) List.perm_append_comm
    exact ⟨a, b, xs, e3, hH, hl, hx, F, B1 ++ (A1 ++ (B2 ++ A3)), e0, e1, e2, dm, OwnS.cons (.at_ o1) oS, pm.nodup_iff.mpr nd, fun c hc => fr c (pm.mem_iff.mp hc)⟩
  rcases ht with rfl | ⟨a, rfl⟩
  · cases o3 with
    | lst h q =>
      obtain ⟨b, xs, B1, B2, z1, z2, z3, z4, z5, z6⟩ := key (.lst h q)
      exact fin rfl z1 z2 z3 z4 z5 z6 rfl
  · cases o3 with
    | at_ o3 =>
      obtain ⟨b, xs, B1, B2, z1, z2, z3, z4, z5, z6⟩ := key o3
      exact fin rfl z1 z2 z3 z4 (.at_ z5) z6 rfl
end
section
variable {X : Cx} {e a b c o : Expr} {es rest : List Expr} {sts : List Stmt} {st : Stmt} {ρ ρ' ρ1 ρ2 ρ3 : Rho} {d x y z : D} {r t t1 u : T} {ts : List T} {ds : List D} {pos p p2 apos cpos : Pos} {i j k : Nat} {bo bo' : Bool} {f xa : Str} {R : Pr} {xn : Xn} {Z : Outs}
/-- the state told otherwise -/
theorem s_ghost (h : ∀ (K : PySem.W.Frag) (B F0 : Hp) (σ : St) (H : Hp), Rl K B F0 ρ σ H → Rl K B F0 ρ' σ H) (hs : S X sts ρ' Z) : S X sts ρ Z := fun B F0 σ H De Wx tk R m => hs B F0 σ H De Wx tk (h _ _ _ _ _ R) m
theorem reT_at {a : Addr} {t u : T} : reT (.at_ a t) u = .at_ a u := rfl
/-- the alias k given back to the list i, of which it is the part j -/
theorem s_back {q : Addr} (i k j : Nat) (hk : ρ[k]? = some (some (.at_ q u))) (hik : i ≠ k) (hi : ρ[i]? = some (some t1)) (ht : t1 = .lst ts ∨ ∃ a, t1 = .at_ a (.lst ts)) (hj : ts[j]? = some (.v (.ref q))) (hs : S X sts ((ρ.set k none).set i (some (reT t1 (.lst (ts.set j u))))) Z) : S X sts ρ Z :=
  s_ghost (fun K B F0 σ H R => by
    obtain ⟨F, A, e0, e1, e2, dm, o, nd, fr⟩ := R
    obtain ⟨v, A1, A2, A3, e3, rfl, o3, _, kk⟩ := o.at hk
    have R2 : Rl K B F0 (some (.at_ q u) :: ρ.set k none) (some v :: σ) H := by
      have oS := kk none
      have pm : (A2 ++ (A1 ++ A3)).Perm (A1 ++ (A2 ++ A3)) := by
        rw [← List.append_assoc, ← List.append_assoc]
        exact List.Perm.append_right A3 List.perm_append_comm
      have oS' : OwnS K F H σ (ρ.set k none) (A1 ++ A3) := by
        refine oS.alter (by simp) fun j' t' ej => ?_
        have : j' ≠ k := fun z => by
          subst z
          rw [List.getElem?_set_self (List.getElem?_eq_some_iff.mp hk).1] at ej
          cases ej
        rw [List.getElem?_set_ne (Ne.symm this)]
      exact ⟨F, _, e0, e1, e2, dm, OwnS.cons o3 oS', pm.nodup_iff.mpr nd, fun b hb => fr b (pm.mem_iff.mp hb)⟩
    exact R2.join (by rw [List.getElem?_set_ne (Ne.symm hik)]; exact hi) ht hj) hs
/-- x = xs[n], the part a list of its own -/
theorem s_alias {pa pn pos' : Pos} {xk : Str} {n : Int} (i k j : Nat) (g : Gd X) (hb : Ev X b ρ (.v (.int n)) ρ) (hi : ρ[i]? = some (some t1)) (ht : t1 = .lst ts ∨ ∃ a, t1 = .at_ a (.lst ts)) (hn : ixN ts.length n = some j) (hj : ts[j]? = some u) (hu : ∀ d, u ≠ .v d) (hu2 : ∀ a t, u ≠ .at_ a t)
    (h : ∀ q, Z.nx ((ρ.set i (some (reT t1 (.lst (ts.set j (.v (.ref q))))))).set k (some (.at_ q u)))) (hN : X.N[i]? = some xa := by rfl) (hv : Vis X.env.scope xa := by first | exact Or.inl rfl | exact Or.inr (Or.inl rfl) | exact Or.inr (Or.inr rfl))
    (hd1 : (xa == ("__debug__" : Str)) = false := by decide) (hcd : (xa == ("__classdict__" : Str)) = false := by decide) (hs : PlainIx b := by first | exact fun _ _ => rfl | (intro _ _; rfl))
    (hNk : X.N[k]? = some xk := by rfl) (hx : Loc X.env.scope xk := by first | exact Or.inl rfl | exact Or.inr rfl) (hsw : swapsWith (.Subscript (.Name xa pa) b pn) (some (.Name xk pos')) pos.line X.env = pure false := by rfl) (hf : X.fn xk = true ∨ X.env.scope.names.lookup xk = some .local := by first | exact .inl rfl | exact .inr rfl) :
    S1 X (.Assign [.Name xk pos'] (.Subscript (.Name xa pa) b pn) pos) ρ Z :=
  s1_of (ps_set g.nd hNk hx (pe_ix ix_list (pe_var hN hv hd1 hcd) (pe_u X b) hs) hsw (hf := hf)) fun B F0 σ H De Wx tk R m => by
    obtain ⟨v, _, _, e1, _⟩ := Rl.slot (st := []) (vst := []) R rfl hi
    refine ⟨v, e1, hb B F0 [] [] σ H _ rfl R fun w H2 R2 => ?_⟩
    obtain ⟨a, q, xs, e2, e3, e4, e5, R3⟩ := (show Rl X.K B F0 ρ σ H2 from R2.drop).split hi ht hj hu hu2
    rw [e1] at e2
    cases e2
    refine ⟨a, xs, n, .ref q, rfl, R2.headI, SqL.of e3, ?_, m.nx _ _ _ (h q) ?_⟩
    · unfold atI
      rw [e4, hn]
      exact e5
    · exact R3.setS
end
end Vl
end
section
set_option maxRecDepth 100000
namespace Vl
open PySem L2
/-! ### tables with keys -/
section
variable {α β : Type}
def kix (kvs : List (Key × α)) (k : Key) : Option Nat := kvs.findIdx? fun p => decide (p.1 = k)
def kget (kvs : List (Key × α)) (k : Key) : Option α := (kvs.find? fun p => decide (p.1 = k)).map (·.2)
def kput (kvs : List (Key × α)) (k : Key) (x : α) : List (Key × α) := match kix kvs k with
  | some j => kvs.set j (k, x)
  | none => kvs ++ [(k, x)]
theorem kix_keys : ∀ {xs : List (Key × α)} {ys : List (Key × β)} {k : Key}, xs.map (·.1) = ys.map (·.1) → kix xs k = kix ys k
  | [], [], _, _ => rfl
  | [], _ :: _, _, h => by simp at h
  | _ :: _, [], _, h => by simp at h
  | p :: xs, q :: ys, k, h => by
    rw [List.map_cons, List.map_cons, List.cons.injEq] at h
    have ih := kix_keys (k := k) h.2
    unfold kix at ih ⊢
    rw [List.findIdx?_cons, List.findIdx?_cons, h.1, ih]
theorem kget_ix : ∀ {xs : List (Key × α)} {k : Key}, kget xs k = (kix xs k).bind fun j => (xs.map (·.2))[j]?
  | [], _ => rfl
  | p :: xs, k => by
    have ih := kget_ix (xs := xs) (k := k)
    unfold kget kix at ih ⊢
    rw [List.find?_cons, List.findIdx?_cons]
    by_cases e : p.1 = k
    · simp [e]
    · simp only [e, decide_false]
      rw [ih]
      cases List.findIdx? (fun p => decide (p.1 = k)) xs <;> simp
theorem kix_some {xs : List (Key × α)} {k : Key} {j : Nat} (h : kix xs k = some j) : j < xs.length ∧ (xs.map (·.1))[j]? = some k := by
  unfold kix at h
  obtain ⟨hj, h1, _⟩ := List.findIdx?_eq_some_iff_getElem.mp h
  refine ⟨hj, ?_⟩
  rw [List.getElem?_map, List.getElem?_eq_getElem hj]
  simpa using h1
theorem kput_len {xs : List (Key × α)} {k : Key} {x : α} : (kput xs k x).length ≤ xs.length + 1 := by
  unfold kput
  split <;> simp
theorem kput_keys {xs : List (Key × α)} {ys : List (Key × β)} {k : Key} {x : α} {y : β} (h : xs.map (·.1) = ys.map (·.1)) : (kput xs k x).map (·.1) = (kput ys k y).map (·.1) := by
  unfold kput
  rw [kix_keys h]
  cases e : kix ys k with
  | none => simp [h]
  | some j =>
    simp only [List.map_set, h]
end
theorem val_get {xs : List (Key × V)} {k : Key} : valV xs k = kget xs k := rfl
theorem put_eq : ∀ {xs : List (Key × V)} {k : Key} {v : V}, (xs.map (·.1)).Nodup → putK xs k v = kput xs k v
  | xs, k, v, nd => by
    unfold putK kput
    have hany : (xs.any fun kv => decide (kv.1 = k)) = (kix xs k).isSome := by
      unfold kix
      rw [List.findIdx?_isSome]
    rw [hany]
    cases e : kix xs k with
    | none => simp
    | some j =>
      simp only [Option.isSome_some, if_true]
      obtain ⟨hj, hk⟩ := kix_some e
      refine List.ext_getElem? fun i => ?_
      rw [List.getElem?_map, List.getElem?_set]
      by_cases hi : j = i
      · subst hi
        rw [List.getElem?_map] at hk
        rw [if_pos rfl, if_pos hj]
        cases hx : xs[j]? with
        | none => rw [hx] at hk; simp at hk
        | some p =>
          rw [hx] at hk
          simp at hk
          simp [hk]
      · rw [if_neg hi]
        cases hx : xs[i]? with
        | none => rfl
        | some p =>
          have hne : ¬ p.1 = k := fun z => by
            have h1 : (xs.map (·.1))[i]? = some k := by rw [List.getElem?_map, hx]; simp [z]
            have hl : i < (xs.map (·.1)).length := (List.getElem?_eq_some_iff.mp h1).1
            exact hi ((List.getElem?_inj (by simpa using hj) nd).mp (hk.trans h1.symm))
          simp [hne]
theorem kget_some {α β : Type} {xs : List (Key × α)} {ds : List (Key × β)} {k : Key} (hk : xs.map (·.1) = ds.map (·.1)) : (kget xs k).isSome = (kget ds k).isSome := by
  have hl : xs.length = ds.length := by have := congrArg List.length hk; simpa using this
  rw [kget_ix, kget_ix, kix_keys (k := k) hk]
  cases e : kix ds k with
  | none => rfl
  | some j =>
    have h := (kix_some e).1
    have h2 : j < xs.length := by omega
    simp [h, h2]
theorem den_get {K : PySem.W.Frag} {F : Hp} {xs : List (Key × V)} {ds : List (Key × D)} {k : Key} (hk : xs.map (·.1) = ds.map (·.1)) (q : DenL K F (xs.map (·.2)) (ds.map (·.2))) :
    (kget ds k = none → kget xs k = none) ∧ ∀ d, kget ds k = some d → ∃ v, kget xs k = some v ∧ Den K F v d := by
  rw [kget_ix, kget_ix, kix_keys (k := k) hk]
  cases e : kix ds k with
  | none => exact ⟨fun _ => rfl, fun d h => by cases h⟩
  | some j =>
    refine ⟨fun h => ?_, fun d h => q.get h⟩
    have hl := (kix_some e).1
    exfalso
    simp only [Option.bind_some, List.getElem?_map, List.getElem?_eq_getElem hl] at h
    cases h
section
variable {K : PySem.W.Frag} {B F0 F F' H H' : Hp} {ρ ρ' st : Rho} {σ σ' vst : St} {v y : V} {d : D} {t t1 r u u' : T} {i j : Nat} {kvs : List (Key × T)}
theorem OwnL.kput {xs : List (Key × V)} {k : Key} {A C : List Addr} (h : OwnL K F H (xs.map (·.2)) (kvs.map (·.2)) A) (hk : xs.map (·.1) = kvs.map (·.1)) (o : Own K F H y u C) : ∃ A', OwnL K F H ((kput xs k y).map (·.2)) ((kput kvs k u).map (·.2)) A' ∧ Less A' (A ++ C) := by
  unfold Vl.kput
  rw [kix_keys (k := k) hk]
  cases kix kvs k with
  | none =>
    simp only [List.map_append, List.map_cons, List.map_nil]
    exact ⟨A ++ (C ++ []), h.append (.cons o .nil), by simpa using Less.refl _⟩
  | some j =>
    simp only [List.map_set]
    exact h.set o j
/-- d[k] = y, d the owned dict of slot i -/
theorem Rl.putD {k : Key} (h : Rl K B F0 (some u :: ρ) (some y :: σ) H) (hi : ρ[i]? = some (some t1)) (ht : t1 = .dic kvs ∨ ∃ a, t1 = .at_ a (.dic kvs)) (nd : (kvs.map (·.1)).Nodup) :
    ∃ (a : Addr) (xs : List (Key × V)), σ[i]? = some (some (.ref a)) ∧ H a = some (.dK xs) ∧ xs.length = kvs.length ∧ Rl K B F0 (ρ.set i (some (reT t1 (.dic (kput kvs k u))))) σ (upd H a (.dK (putK xs k y))) := by
  have h' : Rl K B F0 ([u].map some ++ ρ) ([y].map some ++ σ) H := h
  obtain ⟨a, o, vs, e1, e2, ⟨xs, e3, e4, e5⟩, _, _, k'⟩ := h'.writeG (fun o vs => ∃ xs : List (Key × V), o = .dK xs ∧ xs.map (·.1) = kvs.map (·.1) ∧ vs = xs.map (·.2)) (i := i) (t := .dic kvs) (ts := kvs.map (·.2)) rfl hi ht (fun _ _ e => by cases e) (fun {F H v A} ow => by
    cases ow with
    | dic z1 z2 z3 => exact ⟨_, _, _, _, rfl, rfl, z1, z3, _, rfl, z2, rfl⟩)
  subst e3 e5
  refine ⟨a, xs, e1, e2, by have := congrArg List.length e4; simpa using this, ?_⟩
  rw [put_eq (by rw [e4]; exact nd)]
  exact k' _ ((kput xs k y).map (·.2)) ((kput kvs k u).map (·.2)) (.dic (kput kvs k u)) (fun F H' A' e o => .dic e (kput_keys e4) o) fun F H' A C o1 o2 => by
    cases o2 with
    | cons o3 o4 =>
      cases o4
      obtain ⟨A', o5, l⟩ := o1.kput (k := k) e4 o3
      exact ⟨A', o5, by simpa using l⟩
theorem Own.dicI {A : List Addr} (h : Own K F H v (.dic kvs) A) : ∃ a ks A', v = .ref a ∧ A = a :: A' ∧ H a = some (.dK ks) ∧ ks.map (·.1) = kvs.map (·.1) ∧ OwnL K F H (ks.map (·.2)) (kvs.map (·.2)) A' := by
  cases h with
  | dic z1 z2 z3 => exact ⟨_, _, _, rfl, rfl, z1, z2, z3⟩
/-- the owned dict of slot i, looked into -/
theorem Rl.lookD (h : Rl K B F0 (st ++ ρ) (vst ++ σ) H) (hl : vst.length = st.length) (hi : ρ[i]? = some (some t1)) (ht : t1 = .dic kvs ∨ ∃ a, t1 = .at_ a (.dic kvs)) :
    ∃ (a : Addr) (xs : List (Key × V)), σ[i]? = some (some (.ref a)) ∧ H a = some (.dK xs) ∧ xs.map (·.1) = kvs.map (·.1) ∧ ∀ k d, kget kvs k = some (.v d) → ∃ w, kget xs k = some w ∧ Rl K B F0 (some (.v d) :: (st ++ ρ)) (some w :: (vst ++ σ)) H := by
  obtain ⟨v, F, A, e1, o, eF, mk⟩ := h.slot hl hi
  obtain ⟨A', o⟩ : ∃ A', Own K F H v (.dic kvs) A' := by
    rcases ht with rfl | ⟨a, rfl⟩
    · exact ⟨_, o⟩
    · cases o with
      | at_ o => exact ⟨_, o⟩
  obtain ⟨a, xs, C, rfl, _, z1, z2, z3⟩ := o.dicI
  refine ⟨a, xs, e1, z1, z2, fun k d hd => ?_⟩
  rw [kget_ix] at hd ⊢
  rw [kix_keys (k := k) z2]
  cases e : kix kvs k with
  | none => rw [e] at hd; cases hd
  | some j =>
    rw [e] at hd
    obtain ⟨x, Bx, hx, ox, _⟩ := z3.getI hd
    cases ox with
    | v hden => exact ⟨x, hx, mk _ _ hden⟩
end
section
variable {X : Cx} {e a b c o : Expr} {es rest : List Expr} {sts : List Stmt} {ρ ρ' ρ1 ρ2 ρ3 : Rho} {d x y z : D} {r t t1 u : T} {ts : List T} {ds : List D} {kvs : List (Key × D)} {kts : List (Key × T)} {pos p p2 apos cpos : Pos} {i j : Nat} {k : Key} {bo bo' : Bool} {f xa : Str} {Z : Outs}
theorem kV_of {K : PySem.W.Frag} {B F0 H : Hp} {ρ : Rho} {σ : St} {v : V} {k : Key} (h : Rl K B F0 (some (.v (kD k)) :: ρ) (some v :: σ) H) : v = kV k := by
  obtain ⟨F, _, hd⟩ := h.elimF
  exact den_key hd
/-- {} -/
theorem ev_dnew : Ev X (.Dict [] [] pos) ρ (.dic []) ρ := ev_of pe_dnewK fun B F0 st vst σ H Q hl R k p hp => k _ _ (Rl.newOwn (ts := []) (vs := []) (o := .dK []) R rfl hp (fun F H' A hH ho => .dic (kvs := []) (ts := []) hH rfl ho))
/-- d[k] -/
theorem ev_dget (hu : X.A.units + 64 < cLine) (ha : Ev X a ρ (.v (.dic kvs)) ρ1) (hb : Ev X b ρ1 (.v (kD k)) ρ2) (he : kget kvs k = some d) (hs : NoSl b) : Ev X (.Subscript a b pos) ρ (.v d) ρ2 :=
  ev_of (pe_dget (by omega) (pe_u X a) (pe_u X b) hs) fun B F0 st vst σ H Q hl R kk => ha B F0 st vst σ H _ hl R fun v H1 R1 => hb B F0 (some (.v (.dic kvs)) :: st) (some v :: vst) σ H1 _ (by simp [hl]) R1 fun w H2 R2 => by
    have ew := kV_of R2
    obtain ⟨F, eF, hd, mk⟩ := R2.drop.elim
    cases hd with
    | dic hq hk q =>
      obtain ⟨x, h1, h2⟩ := (den_get hk q).2 d he
      exact ⟨_, x, rfl, .inl ⟨_, k, eF.rd hq, ew, h1.symm⟩, kk x H2 (mk x d h2)⟩
theorem tv_din (hu : X.A.units + 64 < cLine) (hb : Ev X b ρ (.v (kD k)) ρ1) (ha : Ev X a ρ1 (.v (.dic kvs)) ρ2) (hm : behindInMarks .In a = false := by first | exact nomark _ | rfl) : Tv X (.Compare b [.In] [a] pos) ρ (kget kvs k).isSome ρ2 :=
  tv_of (pt_cmp (pc_din (by omega) (pe_u X b) (pe_u X a)) hm) fun B F0 st vst σ H Q hl R kk => hb B F0 st vst σ H _ hl R fun w H1 R1 => ha B F0 (some (.v (kD k)) :: st) (some w :: vst) σ H1 _ (by simp [hl]) R1 fun v H2 R2 => by
    have ew := kV_of R2.drop
    obtain ⟨F, eF, hd, mk⟩ := R2.elim
    cases hd with
    | dic hq hk q =>
      refine ⟨_, _, rfl, .inl ⟨_, k, eF.rd hq, ew, rfl⟩, _, rfl, ?_⟩
      rw [val_get, kget_some (k := k) hk]
      exact kk H2 R2.drop.drop
theorem tv_dnotin (hu : X.A.units + 64 < cLine) (hb : Ev X b ρ (.v (kD k)) ρ1) (ha : Ev X a ρ1 (.v (.dic kvs)) ρ2) (hm : behindInMarks .NotIn a = false := by first | exact nomark _ | rfl) : Tv X (.Compare b [.NotIn] [a] pos) ρ (!(kget kvs k).isSome) ρ2 :=
  tv_of (pt_cmp (pc_dnotin (by omega) (pe_u X b) (pe_u X a)) hm) fun B F0 st vst σ H Q hl R kk => hb B F0 st vst σ H _ hl R fun w H1 R1 => ha B F0 (some (.v (kD k)) :: st) (some w :: vst) σ H1 _ (by simp [hl]) R1 fun v H2 R2 => by
    have ew := kV_of R2.drop
    obtain ⟨F, eF, hd, mk⟩ := R2.elim
    cases hd with
    | dic hq hk q =>
      refine ⟨_, _, rfl, .inl ⟨_, k, eF.rd hq, ew, rfl⟩, _, rfl, ?_⟩
      rw [val_get, kget_some (k := k) hk]
      exact kk H2 R2.drop.drop
/-- k in d, d the owned dict of slot i -/
theorem tv_dinO (hu : X.A.units + 64 < cLine) (i : Nat) (hb : Ev X b ρ (.v (kD k)) ρ1) (hi : ρ1[i]? = some (some t1)) (ht : t1 = .dic kts ∨ ∃ a, t1 = .at_ a (.dic kts)) (hN : X.N[i]? = some xa := by rfl) (hv : Vis X.env.scope xa := by first | exact Or.inl rfl | exact Or.inr (Or.inl rfl) | exact Or.inr (Or.inr rfl))
    (hd1 : (xa == ("__debug__" : Str)) = false := by decide) (hcd : (xa == ("__classdict__" : Str)) = false := by decide) : Tv X (.Compare b [.In] [.Name xa p] pos) ρ (kget kts k).isSome ρ1 :=
  tv_of (pt_cmp (pc_din (by omega) (pe_u X b) (pe_var hN hv hd1 hcd)) (by rfl)) fun B F0 st vst σ H Q hl R kk => hb B F0 st vst σ H _ hl R fun w H1 R1 => by
    have ew := kV_of R1
    obtain ⟨a, xs, e1, e2, e3, _⟩ := R1.drop.lookD hl hi ht
    refine ⟨_, e1, _, _, rfl, .inl ⟨xs, k, .inl e2, ew, rfl⟩, _, rfl, ?_⟩
    rw [val_get, kget_some (k := k) e3]
    exact kk H1 R1.drop
theorem tv_dnotinO (hu : X.A.units + 64 < cLine) (i : Nat) (hb : Ev X b ρ (.v (kD k)) ρ1) (hi : ρ1[i]? = some (some t1)) (ht : t1 = .dic kts ∨ ∃ a, t1 = .at_ a (.dic kts)) (hN : X.N[i]? = some xa := by rfl) (hv : Vis X.env.scope xa := by first | exact Or.inl rfl | exact Or.inr (Or.inl rfl) | exact Or.inr (Or.inr rfl))
    (hd1 : (xa == ("__debug__" : Str)) = false := by decide) (hcd : (xa == ("__classdict__" : Str)) = false := by decide) : Tv X (.Compare b [.NotIn] [.Name xa p] pos) ρ (!(kget kts k).isSome) ρ1 :=
  tv_of (pt_cmp (pc_dnotin (by omega) (pe_u X b) (pe_var hN hv hd1 hcd)) (by rfl)) fun B F0 st vst σ H Q hl R kk => hb B F0 st vst σ H _ hl R fun w H1 R1 => by
    have ew := kV_of R1
    obtain ⟨a, xs, e1, e2, e3, _⟩ := R1.drop.lookD hl hi ht
    refine ⟨_, e1, _, _, rfl, .inl ⟨xs, k, .inl e2, ew, rfl⟩, _, rfl, ?_⟩
    rw [val_get, kget_some (k := k) e3]
    exact kk H1 R1.drop
end
end Vl
end
section
set_option maxRecDepth 100000
namespace Vl
open PySem L2
section
variable {X : Cx} {e a b c o : Expr} {es rest : List Expr} {sts : List Stmt} {ρ ρ' ρ1 ρ2 ρ3 : Rho} {d x y z : D} {r t t1 t0 u : T} {ts us : List T} {ds : List D} {kvs : List (Key × D)} {kts : List (Key × T)} {pos p p2 apos cpos : Pos} {i j : Nat} {k : Key} {bo bo' : Bool} {f xa : Str} {Z : Outs}
theorem Own.lstI {K : PySem.W.Frag} {F H : Hp} {v : V} {ts : List T} {A : List Addr} (h : Own K F H v (.lst ts) A) : ∃ a xs A', v = .ref a ∧ A = a :: A' ∧ H a = some (.lst xs) ∧ OwnL K F H xs ts A' := by
  cases h with
  | lst z1 z2 => exact ⟨_, _, _, rfl, rfl, z1, z2⟩
theorem own_lst {K : PySem.W.Frag} {F H : Hp} {v : V} {ts : List T} {A : List Addr} (o : Own K F H v t1 A) (ht : t1 = .lst ts ∨ ∃ a, t1 = .at_ a (.lst ts)) : ∃ a xs, v = .ref a ∧ H a = some (.lst xs) ∧ xs.length = ts.length := by
  rcases ht with rfl | ⟨a, rfl⟩
  · obtain ⟨a, xs, A', e1, _, e2, e3⟩ := o.lstI
    exact ⟨a, xs, e1, e2, e3.len⟩
  · cases o with
    | at_ o =>
      obtain ⟨a, xs, A', e1, _, e2, e3⟩ := o.lstI
      exact ⟨a, xs, e1, e2, e3.len⟩
/-- xs[n] = e, xs the owned list of slot i -/
theorem s_setO {pa pn : Pos} {n : Int} (i j : Nat) (he : Ev X e ρ r ρ1) (hb : Ev X b ρ1 (.v (.int n)) ρ1) (hi : ρ1[i]? = some (some t1)) (ht : t1 = .lst ts ∨ ∃ a, t1 = .at_ a (.lst ts)) (hn : ixN ts.length n = some j) (h : Z.nx (ρ1.set i (some (reT t1 (.lst (ts.set j r))))))
    (hN : X.N[i]? = some xa := by rfl) (hv : Vis X.env.scope xa := by first | exact Or.inl rfl | exact Or.inr (Or.inl rfl) | exact Or.inr (Or.inr rfl)) (hd1 : (xa == ("__debug__" : Str)) = false := by decide) (hcd : (xa == ("__classdict__" : Str)) = false := by decide)
    (hs : swapsWithSole [.Subscript (.Name xa pa) b pn] e pos.line X.env = pure false := by rfl) (hw : swappedStores [.Subscript (.Name xa pa) b pn] e X.env = pure none := by rfl) (h1 : (assignEach [.Subscript (.Name xa pa) b pn] X.env).map (·.2) = [assign (.Subscript (.Name xa pa) b pn) X.env] := by rfl)
    (ha : ∀ v, assign (.Subscript (.Name xa pa) b pn) X.env v = (do
      let ov ← holding [v] (eval (.Name xa pa) X.env)
      let iv ← holding [v, ov] (eval b X.env)
      standAt pn
      holding [v, ov, iv] (setItem ov iv v)
      release [v, ov, iv] []) := by intro _; rfl) : S1 X (.Assign [.Subscript (.Name xa pa) b pn] e pos) ρ Z :=
  s1_of (ps_asg (pe_u X e) (pg_sub (pe_var hN hv hd1 hcd) (pe_u X b) set_list ha) hs hw h1) fun B F0 σ H De Wx tk R m => he B F0 [] [] σ H _ rfl R fun v H1 R1 => by
    have R1' : Rl X.K B F0 ([some r] ++ ρ1) ([some v] ++ σ) H1 := R1
    obtain ⟨w, _, _, e1, _⟩ := R1'.slot rfl hi
    refine ⟨w, e1, hb B F0 [some r] [some v] σ H1 _ rfl R1' fun q H2 R2 => ?_⟩
    have R3 : Rl X.K B F0 ([r].map some ++ ρ1) ([v].map some ++ σ) H2 := R2.drop
    obtain ⟨a, xs, g1, g2, g3, _, kk⟩ := R3.write (i := i) rfl hi ht
    rw [e1] at g1
    cases g1
    refine ⟨a, xs, n, j, rfl, R2.headI, g2, by rw [g3]; exact hn, m.nx _ σ _ h ?_⟩
    refine kk (xs.set j v) (ts.set j r) fun F H' A C o1 o2 => ?_
    cases o2 with
    | cons o3 o4 =>
      cases o4
      obtain ⟨A', o5, l⟩ := o1.set o3 j
      exact ⟨A', o5, by simpa using l⟩
/-- xs.pop(n), what comes out let go -/
theorem s_popAt {pa : Pos} {n : Int} (i j : Nat) (hb : Ev X b ρ (.v (.int n)) ρ) (hi : ρ[i]? = some (some t1)) (ht : t1 = .lst ts ∨ ∃ a, t1 = .at_ a (.lst ts)) (hz : -(2 ^ 63) ≤ n ∧ n < 2 ^ 63) (hn : seqIndex? n ts.length = some j) (hj : j < ts.length) (h : Z.nx (ρ.set i (some (reT t1 (.lst (ts.eraseIdx j))))))
    (hN : X.N[i]? = some xa := by rfl) (hv : Vis X.env.scope xa := by first | exact Or.inl rfl | exact Or.inr (Or.inl rfl) | exact Or.inr (Or.inr rfl)) (hd1 : (xa == ("__debug__" : Str)) = false := by decide) (hcd : (xa == ("__classdict__" : Str)) = false := by decide)
    (hbase : attributeBase (.Name xa pa) "pop" X.env (eval (.Name xa pa) X.env) = eval (.Name xa pa) X.env := by rfl)
    (hfew : ((backTo cpos (starEach [b] X.env)).all (fun x => !x.1) && (backToKw cpos (keywordEach [] X.env)).all (fun x => x.1.isSome) && decide (([b] : List Expr).length + ([] : List Keyword).length + (if ([] : List Keyword).isEmpty then 0 else 1) < 30)) = true := by rfl)
    (hs : starEach [b] X.env = (false, eval b X.env) :: starEach [] X.env := by rfl) (hsw : swapsWith (.Call (.Attribute (.Name xa pa) "pop" apos) [b] [] cpos) none pos.line X.env = pure false := by rfl) (hline : (apos.endLine == cpos.line) = true := by rfl) :
    S1 X (.Expr (.Call (.Attribute (.Name xa pa) "pop" apos) [b] [] cpos) pos) ρ Z :=
  s1_of (ps_expr (pe_bm PySem.F.plainAttrs_list PySem.F.slot_list_pop PySem.F.type_list_pop mt_popAt (pe_var hN hv hd1 hcd) (pa_cons (pe_u X b) pa_nil hs) hbase hfew hline hs (by rfl)) hsw) fun B F0 σ H De Wx tk R m => by
    obtain ⟨v, F, A, e1, ow, eF, _⟩ := Rl.slot (st := []) (vst := []) R rfl hi
    obtain ⟨a0, xs0, rfl, ex0, _⟩ := own_lst ow ht
    refine ⟨_, e1, tyV_of ex0, hb B F0 [] [] σ H _ rfl R fun u H1 R1 => ?_⟩
    have R1' : Rl X.K B F0 (([] : List T).map some ++ ρ) (([] : List V).map some ++ σ) H1 := R1.drop
    obtain ⟨a, xs, e2, e3, e4, _, kk⟩ := R1'.write (i := i) rfl hi ht
    rw [e1] at e2
    cases e2
    have hx : j < xs.length := by rw [e4]; exact hj
    refine ⟨_, xs, n, j, xs[j], rfl, by rw [R1.headI], e3, hz.1, hz.2, by rw [e4]; exact hn, List.getElem?_eq_getElem hx, m.nx _ σ _ h ?_⟩
    refine kk (xs.eraseIdx j) (ts.eraseIdx j) fun F H' A C o1 o2 => ?_
    cases o2
    obtain ⟨A', o5, l⟩ := o1.erase j
    exact ⟨A', o5, by simpa using l⟩
/-- d[k] = e, d the owned dict of slot i -/
theorem s_setD {pa pn : Pos} (i : Nat) (hu : X.A.units + 64 < cLine) (he : Ev X e ρ r ρ1) (hb : Ev X b ρ1 (.v (kD k)) ρ1) (hi : ρ1[i]? = some (some t1)) (ht : t1 = .dic kts ∨ ∃ a, t1 = .at_ a (.dic kts)) (nd : (kts.map (·.1)).Nodup) (hz : kts.length < 100000) (h : Z.nx (ρ1.set i (some (reT t1 (.dic (kput kts k r))))))
    (hN : X.N[i]? = some xa := by rfl) (hv : Vis X.env.scope xa := by first | exact Or.inl rfl | exact Or.inr (Or.inl rfl) | exact Or.inr (Or.inr rfl)) (hd1 : (xa == ("__debug__" : Str)) = false := by decide) (hcd : (xa == ("__classdict__" : Str)) = false := by decide)
    (hs : swapsWithSole [.Subscript (.Name xa pa) b pn] e pos.line X.env = pure false := by rfl) (hw : swappedStores [.Subscript (.Name xa pa) b pn] e X.env = pure none := by rfl) (h1 : (assignEach [.Subscript (.Name xa pa) b pn] X.env).map (·.2) = [assign (.Subscript (.Name xa pa) b pn) X.env] := by rfl)
    (ha : ∀ v, assign (.Subscript (.Name xa pa) b pn) X.env v = (do
      let ov ← holding [v] (eval (.Name xa pa) X.env)
      let iv ← holding [v, ov] (eval b X.env)
      standAt pn
      holding [v, ov, iv] (setItem ov iv v)
      release [v, ov, iv] []) := by intro _; rfl) : S1 X (.Assign [.Subscript (.Name xa pa) b pn] e pos) ρ Z :=
  s1_of (ps_asg (pe_u X e) (pg_sub (pe_var hN hv hd1 hcd) (pe_u X b) (set_dict (by omega)) ha) hs hw h1) fun B F0 σ H De Wx tk R m => he B F0 [] [] σ H _ rfl R fun v H1 R1 => by
    have R1' : Rl X.K B F0 ([some r] ++ ρ1) ([some v] ++ σ) H1 := R1
    obtain ⟨w, _, _, e1, _⟩ := R1'.slot rfl hi
    refine ⟨w, e1, hb B F0 [some r] [some v] σ H1 _ rfl R1' fun q H2 R2 => ?_⟩
    have ew := kV_of R2
    obtain ⟨a, xs, g1, g2, g3, R3⟩ := Rl.putD (k := k) (show Rl X.K B F0 (some r :: ρ1) (some v :: σ) H2 from R2.drop) hi ht nd
    rw [e1] at g1
    cases g1
    exact ⟨a, _, rfl, .inl ⟨xs, k, g2, ew, by rw [g3, sizeLine_eq]; omega, rfl⟩, m.nx _ σ _ h R3⟩
/-- xs[n][k] = e, xs the owned list of slot i, its part j a dict -/
theorem s_setLD {pa pn pm : Pos} {n : Int} (i j : Nat) (hu : X.A.units + 64 < cLine) (he : Ev X e ρ r ρ1) (hb : Ev X b ρ1 (.v (.int n)) ρ1) (hc : ∀ ρ', (∀ m, m ≠ i → ρ'[m]? = ρ1[m]?) → Ev X c ρ' (.v (kD k)) ρ') (hi : ρ1[i]? = some (some (.lst ts))) (hn : ixN ts.length n = some j) (hj : ts[j]? = some (.dic kts)) (nd : (kts.map (·.1)).Nodup) (hz : kts.length < 100000)
    (h : Z.nx (ρ1.set i (some (.lst (ts.set j (.dic (kput kts k r)))))))
    (hN : X.N[i]? = some xa := by rfl) (hv : Vis X.env.scope xa := by first | exact Or.inl rfl | exact Or.inr (Or.inl rfl) | exact Or.inr (Or.inr rfl)) (hd1 : (xa == ("__debug__" : Str)) = false := by decide) (hcd : (xa == ("__classdict__" : Str)) = false := by decide) (hpi : PlainIx b := by first | exact fun _ _ => rfl | (intro _ _; rfl))
    (hs : swapsWithSole [.Subscript (.Subscript (.Name xa pa) b pn) c pm] e pos.line X.env = pure false := by rfl) (hw : swappedStores [.Subscript (.Subscript (.Name xa pa) b pn) c pm] e X.env = pure none := by rfl) (h1 : (assignEach [.Subscript (.Subscript (.Name xa pa) b pn) c pm] X.env).map (·.2) = [assign (.Subscript (.Subscript (.Name xa pa) b pn) c pm) X.env] := by rfl)
    (ha : ∀ v, assign (.Subscript (.Subscript (.Name xa pa) b pn) c pm) X.env v = (do
      let ov ← holding [v] (eval (.Subscript (.Name xa pa) b pn) X.env)
      let iv ← holding [v, ov] (eval c X.env)
      standAt pm
      holding [v, ov, iv] (setItem ov iv v)
      release [v, ov, iv] []) := by intro _; rfl) : S1 X (.Assign [.Subscript (.Subscript (.Name xa pa) b pn) c pm] e pos) ρ Z :=
  s1_of (ps_asg (pe_u X e) (pg_sub (pe_ix ix_list (pe_var hN hv hd1 hcd) (pe_u X b) hpi) (pe_u X c) (set_dict (by omega)) ha) hs hw h1) fun B F0 σ H De Wx tk R m => he B F0 [] [] σ H _ rfl R fun v H1 R1 => by
    have R1' : Rl X.K B F0 ([some r] ++ ρ1) ([some v] ++ σ) H1 := R1
    obtain ⟨w, _, _, e1, _⟩ := R1'.slot rfl hi
    refine ⟨w, e1, hb B F0 [some r] [some v] σ H1 _ rfl R1' fun q H2 R2 => ?_⟩
    have hlt : i < ρ1.length := (List.getElem?_eq_some_iff.mp hi).1
    have R3 : Rl X.K B F0 (some r :: ρ1) (some v :: σ) H2 := R2.drop
    obtain ⟨a, b', xs, g1, g2, g3, g4, R4⟩ := R3.split (i := i + 1) (by simpa using hi) (.inl rfl) hj (fun _ e => by cases e) (fun _ _ e => by cases e)
    simp only [List.getElem?_cons_succ] at g1
    rw [e1] at g1
    cases g1
    simp only [List.set_cons_succ] at R4
    refine ⟨a, xs, n, .ref b', rfl, R2.headI, SqL.of g2, by unfold atI; rw [g3, hn]; exact g4, ?_⟩
    refine hc (ρ1.set i (some (.lst (ts.set j (.v (.ref b')))))) (fun m hm => by rw [List.getElem?_set_ne (Ne.symm hm)]) B F0 [some (.at_ b' (.dic kts)), some r] [some (.ref b'), some v] σ H2 _ rfl R4 fun q3 H3 R5 => ?_
    have ek := kV_of R5
    have R6 : Rl X.K B F0 (some r :: some (.at_ b' (.dic kts)) :: ρ1.set i (some (.lst (ts.set j (.v (.ref b')))))) (some v :: some (.ref b') :: σ) H3 := Rl.swap (ρ1 := [some (.at_ b' (.dic kts))]) (ρ2 := [some r]) (σ1 := [some (.ref b')]) (σ2 := [some v]) rfl rfl R5.drop
    obtain ⟨a2, xs2, g5, g6, g7, R7⟩ := Rl.putD (k := k) (i := 0) R6 rfl (.inr ⟨_, rfl⟩) nd
    simp at g5
    subst g5
    refine ⟨b', _, rfl, .inl ⟨xs2, k, g6, ek, by rw [g7, sizeLine_eq]; omega, rfl⟩, m.nx _ σ _ h ?_⟩
    have hjl : j < ts.length := (List.getElem?_eq_some_iff.mp hj).1
    have R8 := Rl.join (i := i) (ts := ts.set j (.v (.ref b'))) (u := .dic (kput kts k r)) (j := j) (t1 := .lst (ts.set j (.v (.ref b')))) R7 (by rw [List.getElem?_set_self hlt]) (.inl rfl) (List.getElem?_set_self hjl)
    rw [List.set_set, List.set_set] at R8
    exact R8
/-- {k: e} -/
theorem ev_disp1 (ha : Ev X a ρ (.v (kD k)) ρ1) (hb : Ev X b ρ1 r ρ2) : Ev X (.Dict [some a] [b] pos) ρ (.dic [(k, r)]) ρ2 :=
  ev_of (pe_disp (pps_cons (pe_u X a) (pe_u X b) pps_nil) rfl rfl (by simp) (by simp)) fun B F0 st vst σ H Q hl R kk p hp => by
    have R0 : Rl X.K B F0 (some (.dic []) :: (st ++ ρ)) (some (.ref p) :: (vst ++ σ)) (upd H p (.dK [])) := Rl.newOwn (ts := []) (vs := []) (o := .dK []) R rfl hp (fun F H' A hH ho => .dic (kvs := []) (ts := []) hH rfl ho)
    refine ha B F0 (some (.dic []) :: st) (some (.ref p) :: vst) σ _ _ (by simp [hl]) R0 fun v H1 R1 => ?_
    have ev := kV_of R1
    have R1' : Rl X.K B F0 (some (.dic []) :: (st ++ ρ1)) (some (.ref p) :: (vst ++ σ)) H1 := R1.drop
    refine hb B F0 (some (.dic []) :: st) (some (.ref p) :: vst) σ H1 _ (by simp [hl]) R1' fun w H2 R2 => ?_
    have R2' : Rl X.K B F0 (some r :: some (.dic []) :: (st ++ ρ2)) (some w :: some (.ref p) :: (vst ++ σ)) H2 := R2
    obtain ⟨a2, xs2, g5, g6, g7, R7⟩ := Rl.putD (k := k) (i := 0) R2' rfl (.inl rfl) List.nodup_nil
    simp at g5
    subst g5
    have : xs2 = [] := List.eq_nil_of_length_eq_zero g7
    subst this
    refine ⟨g6, [(k, w)], by rw [ev]; rfl, by simp, kk _ _ ?_⟩
    have e1 : mergeK ([] : List (Key × V)) [(k, w)] = putK [] k w := rfl
    rw [e1]
    exact R7
end
end Vl
end
section
set_option maxRecDepth 100000
namespace Vl
open PySem L2
/-! ### tuples compared -/
def rLtD (K : PySem.W.Frag) : R2 := fun x y H Q => ∃ d e, Dp K H x d ∧ Dp K H y e ∧ PySem.W.alike d e = true ∧ d ≠ .none ∧ min d.depth e.depth < 64 ∧ Q (.bl (PySem.W.dataLt d e)) H
theorem op_ltD {X : Cx} (hu : X.A.units + 64 < cLine) : OpR X (compareOp .Lt) (rLtD X.K) := by
  rintro pins s σ H x y v u Q I rx ry ⟨d, e, hd, he, al, nn, dp, q⟩
  obtain ⟨as, r1⟩ := Dp.reads I d x v hd rx
  obtain ⟨bs, r2⟩ := Dp.reads I e y u he ry
  exact PySem.W.rcLt_alike d e X.A s v u as bs r1 r2 al nn (by omega) X.prog X.w _ _ ⟨.bl _, H, I, rfl, q⟩
theorem kD_plain : ∀ k : Key, (kD k).plain = true
  | .inl _ => by simp [kD, D.plain]
  | .inr _ => by simp [kD, D.plain]
theorem kDs_plain : ∀ ks : List Key, D.plainL (ks.map kD) = true
  | [] => by simp [D.plainL]
  | k :: ks => by simp [D.plainL, kD_plain, kDs_plain ks]
theorem kD_depth : ∀ k : Key, (kD k).py.depth = 0
  | .inl _ => by simp [kD, D.py, PyData.depth]
  | .inr _ => by simp [kD, D.py, PyData.depth]
theorem kDs_depth : ∀ ks : List Key, PyData.depthAll (D.pyL (ks.map kD)) = 0
  | [] => by simp [D.pyL, PyData.depthAll]
  | k :: ks => by simp [D.pyL, PyData.depthAll, kD_depth, kDs_depth ks]
def likeK : List Key → List Key → Bool
  | .inl _ :: xs, .inl _ :: ys => likeK xs ys
  | .inr _ :: xs, .inr _ :: ys => likeK xs ys
  | [], _ => true
  | _, [] => true
  | _, _ => false
theorem alike_K : ∀ xs ys : List Key, likeK xs ys = true → PySem.W.alikeAll (D.pyL (xs.map kD)) (D.pyL (ys.map kD)) = true
  | [], ys, _ => by simp [D.pyL, PySem.W.alikeAll]
  | x :: xs, [], _ => by simp [D.pyL, PySem.W.alikeAll]
  | .inl _ :: xs, .inl _ :: ys, h => by
    have := alike_K xs ys (by simpa [likeK] using h)
    simp [D.pyL, D.py, kD, PySem.W.alikeAll, PySem.W.alike, this]
  | .inr _ :: xs, .inr _ :: ys, h => by
    have := alike_K xs ys (by simpa [likeK] using h)
    simp [D.pyL, D.py, kD, PySem.W.alikeAll, PySem.W.alike, this]
  | .inl _ :: xs, .inr _ :: ys, h => by simp [likeK] at h
  | .inr _ :: xs, .inl _ :: ys, h => by simp [likeK] at h
theorem tok_K (k : Key) : PySem.W.keyToks (kD k).py = [kI k] := by cases k <;> simp [kD, D.py, PySem.W.keyToks, kI]
theorem lt_K : ∀ xs ys : List Key, PyProof.Rows.lexLt PyProof.Rows.itemOrd (PySem.W.keyToksAll (D.pyL (xs.map kD))) (PySem.W.keyToksAll (D.pyL (ys.map kD))) = ltK xs ys
  | [], [] => by simp [D.pyL, PySem.W.keyToksAll, ltK]; decide
  | [], y :: ys => by simp [D.pyL, PySem.W.keyToksAll, ltK]; rfl
  | x :: xs, [] => by simp [D.pyL, PySem.W.keyToksAll, ltK]; rfl
  | x :: xs, y :: ys => by
    have ih := lt_K xs ys
    simp only [List.map_cons, D.pyL, PySem.W.keyToksAll, tok_K, List.singleton_append, ltK] at ih ⊢
    rw [PyProof.Rows.lex_self]
    by_cases e : kI x = kI y
    · rw [e, PyProof.Rows.lex_self, PyProof.Rows.lex_self]; exact ih
    · rw [PyProof.Rows.lex_diff e, PyProof.Rows.lex_diff e]
theorem cv_ltK {X : Cx} {a b : List Key} (hu : X.A.units + 64 < cLine) (h : likeK a b = true) : CmpV X .Lt (tK a) (tK b) (ltK a b) := ⟨_, op_ltD hu, fun H v u Q hv hu' k => by
  have pa : (tK a).plain = true := by simpa [tK, D.plain] using kDs_plain a
  have pb : (tK b).plain = true := by simpa [tK, D.plain] using kDs_plain b
  refine ⟨_, _, hv.dp pa, hu'.dp pb, by simpa [tK, D.py, PySem.W.alike] using alike_K a b h, by simp [tK, D.py], ?_, ?_⟩
  · simp only [tK, D.py, PyData.depth, kDs_depth]
    omega
  · have : PySem.W.dataLt (tK a).py (tK b).py = ltK a b := by
      simp only [tK, D.py, PySem.W.dataLt_tuple]
      exact lt_K a b
    rw [this]
    exact k⟩
/-! ### truth of lists -/
section
variable {X : Cx} {e a b c o : Expr} {es rest : List Expr} {sts : List Stmt} {ρ ρ' ρ1 ρ2 ρ3 : Rho} {d x y z : D} {r t t1 t0 u : T} {ts us : List T} {ds ds' : List D} {kvs : List (Key × D)} {kts : List (Key × T)} {pos p p2 p3 apos cpos : Pos} {i j : Nat} {k : Key} {bo bo' : Bool} {f xa : Str} {Z : Outs}
/-- the owned list of slot i, as a test -/
theorem tv_truO (i : Nat) (hi : ρ[i]? = some (some t1)) (ht : t1 = .lst ts ∨ ∃ a, t1 = .at_ a (.lst ts)) (hN : X.N[i]? = some xa := by rfl) (hv : Vis X.env.scope xa := by first | exact Or.inl rfl | exact Or.inr (Or.inl rfl) | exact Or.inr (Or.inr rfl))
    (hd1 : (xa == ("__debug__" : Str)) = false := by decide) (hcd : (xa == ("__classdict__" : Str)) = false := by decide) (he : ∀ whole, isTrue (.Name xa p) X.env whole = (do let v ← whole; standAt (Expr.Name xa p).pos; holding [v] (truthy v)) := by intro _; rfl) : Tv X (.Name xa p) ρ (!ts.isEmpty) ρ :=
  tv_of (pt_truth (pe_var hN hv hd1 hcd) he) fun B F0 st vst σ H Q hl R kk => by
    obtain ⟨v, F, A, e1, ow, eF, _⟩ := R.slot hl hi
    obtain ⟨a, xs, rfl, ex, el⟩ := own_lst ow ht
    refine ⟨_, e1, _, .inl ⟨xs, SqL.of ex, rfl⟩, ?_⟩
    have : (!xs.isEmpty) = !ts.isEmpty := by cases xs <;> cases ts <;> simp_all
    rw [this]
    exact kk H R
theorem tv_tru (he0 : Ev X e ρ (.v (.lst ds)) ρ1) (he : ∀ whole, isTrue e X.env whole = (do let v ← whole; standAt e.pos; holding [v] (truthy v)) := by intro _; rfl) : Tv X e ρ (!ds.isEmpty) ρ1 :=
  tv_of (pt_truth (pe_u X e) he) fun B F0 st vst σ H Q hl R kk => he0 B F0 st vst σ H _ hl R fun v H1 R1 => by
    obtain ⟨F, RF, hd⟩ := R1.elimF
    cases hd with
    | lst hq q =>
      refine ⟨_, .inl ⟨_, RF.sub.sqL hq, rfl⟩, ?_⟩
      have hlen := q.length
      rename_i xs
      have : (!xs.isEmpty) = !ds.isEmpty := by cases xs <;> cases ds <;> simp_all
      rw [this]
      exact kk H1 RF.rl
end
/-! ### lists made of others -/
section
variable {K : PySem.W.Frag} {B F0 F F' H H' : Hp} {ρ ρ' st : Rho} {σ σ' vst : St} {v y : V} {d : D} {t t1 r u u' : T} {i j : Nat} {ts us : List T} {p : Addr}
/-- an owned list at the head, opened: its parts stand there -/
theorem Rl.openL (h : Rl K B F0 (some (.lst ts) :: ρ) (some v :: σ) H) : ∃ a xs, v = .ref a ∧ H a = some (.lst xs) ∧ xs.length = ts.length ∧ Rl K B F0 (ts.map some ++ ρ) (xs.map some ++ σ) H := by
  obtain ⟨F, A, e0, e1, e2, dm, o, nd, fr⟩ := h
  cases o with
  | cons o1 o2 =>
    obtain ⟨a, xs, C, rfl, rfl, hH, hx⟩ := o1.lstI
    refine ⟨a, xs, rfl, hH, hx.len, F, _, e0, e1, e2, dm, (OwnS.ofL hx).append o2, ?_, fun b hb => fr b (by simp at hb ⊢; exact .inr hb)⟩
    exact (List.nodup_cons.mp (by simpa using nd)).2
end
section
variable {X : Cx} {e a b c o : Expr} {es rest : List Expr} {sts : List Stmt} {ρ ρ' ρ1 ρ2 ρ3 : Rho} {d x y z : D} {r t t1 t0 u : T} {ts us : List T} {ds ds' : List D} {kvs : List (Key × D)} {kts : List (Key × T)} {pos p p2 p3 apos cpos : Pos} {i j : Nat} {k : Key} {bo bo' : Bool} {f xa : Str} {Z : Outs}
/-- a name whose thing is taken along -/
theorem ev_varM (i : Nat) (hr : ρ[i]? = some (some t)) (hN : X.N[i]? = some xa := by rfl) (hv : Vis X.env.scope xa := by first | exact Or.inl rfl | exact Or.inr (Or.inl rfl) | exact Or.inr (Or.inr rfl)) (hd : (xa == ("__debug__" : Str)) = false := by decide)
    (hcd : (xa == ("__classdict__" : Str)) = false := by decide) : Ev X (.Name xa pos) ρ t (ρ.set i none) := ev_of (pe_var hN hv hd hcd) fun B F0 st vst σ H Q hl R k => by
  obtain ⟨F, A, e0, e1, e2, dm, o, nd, fr⟩ := R
  obtain ⟨A1, A2, rfl, o1, o2⟩ := o.split hl
  obtain ⟨v, C1, C2, C3, e3, rfl, o3, _, kk⟩ := o2.at hr
  have oS' : OwnS X.K F H σ (ρ.set i none) (C1 ++ C3) := by
    refine (kk none).alter (by simp) fun j' t' ej => ?_
    have : j' ≠ i := fun z => by
      subst z
      rw [List.getElem?_set_self (List.getElem?_eq_some_iff.mp hr).1] at ej
      cases ej
    rw [List.getElem?_set_ne (Ne.symm this)]
  have pm : (C2 ++ (A1 ++ (C1 ++ C3))).Perm (A1 ++ (C1 ++ (C2 ++ C3))) := by
    have q1 : (A1 ++ (C1 ++ (C2 ++ C3))) = (A1 ++ C1) ++ (C2 ++ C3) := by simp [List.append_assoc]
    have q2 : (C2 ++ (A1 ++ (C1 ++ C3))) = (C2 ++ (A1 ++ C1)) ++ C3 := by simp [List.append_assoc]
    have q3 : (A1 ++ C1) ++ (C2 ++ C3) = ((A1 ++ C1) ++ C2) ++ C3 := by simp [List.append_assoc]
    rw [q1, q2, q3]
    exact List.Perm.append_right C3 List.perm_append_comm
  exact ⟨v, e3, k v H ⟨F, _, e0, e1, e2, dm, OwnS.cons o3 (o1.append oS'), pm.nodup_iff.mpr nd, fun b hb => fr b (pm.mem_iff.mp hb)⟩⟩
/-- xs + ys, both made here -/
theorem ev_cat (ha : Ev X a ρ (.lst ts) ρ1) (hb : Ev X b ρ1 (.lst us) ρ2) (hz : ts.length + us.length ≤ 100000) : Ev X (.BinOp a .Add b pos) ρ (.lst (ts ++ us)) ρ2 :=
  ev_of (pe_op op_cat (pe_u X a) (pe_u X b)) fun B F0 st vst σ H Q hl R k => ha B F0 st vst σ H _ hl R fun v H1 R1 => hb B F0 (some (.lst ts) :: st) (some v :: vst) σ H1 _ (by simp [hl]) R1 fun w H2 R2 => by
    have R2' : Rl X.K B F0 (some (.lst us) :: (some (.lst ts) :: (st ++ ρ2))) (some w :: (some v :: (vst ++ σ))) H2 := R2
    obtain ⟨bb, zs, rfl, hB, lB, R3⟩ := R2'.openL
    have R4 : Rl X.K B F0 (some (.lst ts) :: (us.map some ++ (st ++ ρ2))) (some v :: (zs.map some ++ (vst ++ σ))) H2 := Rl.swap (ρ1 := us.map some) (ρ2 := [some (.lst ts)]) (σ1 := zs.map some) (σ2 := [some v]) (by simp [lB]) rfl R3
    obtain ⟨aa, xs, rfl, hA, lA, R5⟩ := R4.openL
    refine ⟨aa, bb, xs, zs, rfl, rfl, hA, hB, by rw [lA, lB, sizeLine_eq]; omega, fun p hp => k _ _ ?_⟩
    refine Rl.newLst (ts := ts ++ us) (vs := xs ++ zs) ?_ (by simp [lA, lB]) hp
    simpa [List.append_assoc] using R5
/-- xs[::-1] -/
theorem ev_revL {n : Nat} {p1 : Pos} (ha : Ev X a ρ (.v (.lst ds)) ρ1) : Ev X (.Subscript a (.Slice none none (some (.UnaryOp .USub (.Constant (.int 1) n p1) p2)) p3) pos) ρ (.lst (ds.reverse.map T.v)) ρ1 :=
  ev_of (pe_revL (pe_u X a)) fun B F0 st vst σ H Q hl R k => ha B F0 st vst σ H _ hl R fun v H1 R1 => by
    obtain ⟨F, RF, hd⟩ := R1.elimF
    cases hd with
    | @lst aa xs _ hq q =>
      refine ⟨aa, xs, rfl, RF.sub.sqL hq, fun p hp => k _ _ ?_⟩
      refine Rl.newLst (ts := ds.reverse.map T.v) (vs := xs.reverse) ?_ (by simp [q.length]) hp
      have key : ∀ {us : List V} {es : List D}, DenL X.K F us es → RlF X.K B F0 F ((es.map T.v).map some ++ (st ++ ρ1)) (us.map some ++ (vst ++ σ)) H1 := fun {us es} g => by
        induction us generalizing es with
        | nil => cases g; exact RF
        | cons u us ih =>
          cases g with
          | cons g1 g2 =>
            obtain ⟨A, e0, e1, e2, dm, o, nd, fr⟩ := ih g2
            exact ⟨A, e0, e1, e2, dm, OwnS.cons (A := []) (.v g1) o, nd, fr⟩
      have rv : ∀ {us : List V} {es : List D}, DenL X.K F us es → DenL X.K F us.reverse es.reverse := fun {us es} g => by
        induction us generalizing es with
        | nil => cases g; exact .nil
        | cons u us ih =>
          cases g with
          | cons g1 g2 => rw [List.reverse_cons, List.reverse_cons]; exact (ih g2).append (.cons g1 .nil)
      exact (key (rv q)).rl
/-- list(d): the keys -/
theorem ev_listD (hc : X.calm = true) (ha : EvA X [e] ρ [r] ρ1) (hr : r.d = .dic kvs) (hm : X.mg "list" = none) (hg : Gl X "list" := by rfl) (he : starEach [e] X.env = (false, eval e X.env) :: starEach [] X.env := by rfl) : Ev X (.Call (.Name "list" p) [e] [] pos) ρ (.lst (kvs.map fun q => .v (kD q.1))) ρ1 := by
  have := ev_callTyL (us := kvs.map fun q => kD q.1) (p := p) (pos := pos) (call_listD hc) hm PyProof.Rows.boot_list ha (fun F H vs Q eF h k => by
    obtain ⟨v, rfl, hd⟩ := denl1 h
    rw [hr] at hd
    cases hd with
    | @dic a ks _ hq hk q =>
      refine ⟨a, ks, rfl, eF.rd hq, fun p hp => k _ p ?_ hp⟩
      have key : ∀ {ks : List (Key × V)} {kvs : List (Key × D)}, ks.map (·.1) = kvs.map (·.1) → DenL X.K F (ks.map fun q => kV q.1) (kvs.map fun q => kD q.1) := fun {ks kvs} e => by
        induction ks generalizing kvs with
        | nil => cases kvs with
          | nil => exact .nil
          | cons _ _ => simp at e
        | cons q ks ih => cases kvs with
          | nil => simp at e
          | cons q' kvs =>
            rw [List.map_cons, List.map_cons, List.cons.injEq] at e
            rw [List.map_cons, List.map_cons, e.1]
            exact .cons (kD_den q'.1) (ih e.2)
      exact key hk) hg (he := he)
  simpa [List.map_map, Function.comp_def] using this
/-- sorted(d), the keys ints -/
theorem ev_sortedD {ks ms : List Int} (hc : X.calm = true) (ha : EvA X [e] ρ [r] ρ1) (hr : r.d = .dic kvs) (hk : kvs.map (·.1) = ks.map Sum.inl) (hz : ks.length < 64) (h1 : ms.Perm ks) (h2 : ms.Pairwise (· ≤ ·)) (hm : X.mg "sorted" = none) (hg : Gl X "sorted" := by rfl) (he : starEach [e] X.env = (false, eval e X.env) :: starEach [] X.env := by rfl) :
    Ev X (.Call (.Name "sorted" p) [e] [] pos) ρ (.lst (ms.map fun n => .v (.int n))) ρ1 := by
  have := ev_callBL (us := ms.map D.int) (p := p) (pos := pos) (call_sortedDI hc) hm PyProof.Rows.boot_sorted ha (fun F H vs Q eF h k => by
    obtain ⟨v, rfl, hd⟩ := denl1 h
    rw [hr] at hd
    cases hd with
    | @dic a xs _ hq hk' q =>
      refine ⟨a, xs, ks, rfl, eF.rd hq, hk'.trans hk, hz, fun ys p g1 g2 hp => ?_⟩
      have : ys = ms := List.Perm.eq_of_pairwise (le := fun a b : Int => a ≤ b) (fun a b _ _ h1 h2 => Int.le_antisymm h1 h2) g2 h2 (g1.trans h1.symm)
      subst this
      exact k _ p (ints_den _) hp) hg (he := he)
  simpa [List.map_map, Function.comp_def] using this
/-- ''.join(xs) -/
theorem ev_join {w : Str} {ws : List Str} (ha : Ev X a ρ (.v (.str w)) ρ1) (hb : Ev X b ρ1 r ρ2) (hr : r.d = .lst (ws.map D.str) ∨ r.d = .tup (ws.map D.str)) (hz : (ws.map (·.length)).sum + ws.length * w.length ≤ 16777216) (hs : starEach [b] X.env = [(false, eval b X.env)] := by rfl)
    (hbase : attributeBase a "join" X.env (eval a X.env) = eval a X.env := by rfl) (hline : (apos.endLine == pos.line) = true := by rfl) : Ev X (.Call (.Attribute a "join" apos) [b] [] pos) ρ (.v (.str (Txt.join w ws))) ρ2 :=
  ev_of (pe_join (pe_u X a) (pe_u X b) hs hbase hline) fun B F0 st vst σ H Q hl R k => ha B F0 st vst σ H _ hl R fun v H1 R1 => ⟨⟨w, R1.headS⟩, ev_frz hb B F0 (some (.v (.str w)) :: st) (some v :: vst) σ H1 _ (by simp [hl]) R1 fun u H2 R2 => by
    have R2' : Rl X.K B F0 (some (.v r.d) :: (some (.v (.str w)) :: (st ++ ρ2))) (some u :: (some v :: (vst ++ σ))) H2 := R2
    obtain ⟨F, RF, hd⟩ := R2'.elimF
    have hv := RF.rl.headS
    rcases hr with e | e
    · rw [e] at hd
      cases hd with
      | lst hq q => exact ⟨w, _, ws, hv, rfl, .inl (by rw [← den_strs q]; exact RF.sub.sqL hq), hz, k _ H2 (RF.rl.drop.pushS fun _ => .str _)⟩
    · rw [e] at hd
      cases hd with
      | tup hq q => exact ⟨w, _, ws, hv, rfl, .inr (by rw [← den_strs q]; exact SqT.of (RF.sub.t hq)), hz, k _ H2 (RF.rl.drop.pushS fun _ => .str _)⟩⟩
end
end Vl
end
section
set_option maxRecDepth 100000
namespace Vl
open PySem L2
section
variable {α : Type}
def fput (f : Str) (x : α) : List (Str × α) → List (Str × α)
  | [] => [(f, x)]
  | (g, y) :: r => if g = f then (g, x) :: r else (g, y) :: fput f x r
end
theorem fput_keys {α β : Type} {f : Str} {x : α} {y : β} : ∀ {ks : List (Str × α)} {fs : List (Str × β)}, ks.map (·.1) = fs.map (·.1) → (fput f x ks).map (·.1) = (fput f y fs).map (·.1)
  | [], [], _ => rfl
  | [], _ :: _, h => by simp at h
  | _ :: _, [], h => by simp at h
  | (g, _) :: ks, (g', _) :: fs, h => by
    rw [List.map_cons, List.map_cons, List.cons.injEq] at h
    obtain ⟨e, h⟩ := h
    dsimp only at e
    subst e
    have ih := fput_keys (f := f) (x := x) (y := y) h
    unfold fput
    by_cases e : g = f
    · rw [if_pos e, if_pos e]; simp [h]
    · rw [if_neg e, if_neg e]; simp only [List.map_cons, ih]
theorem fput_V (f : Str) (v : V) : ∀ fs : List (Str × V), fput f v fs = putF f v fs
  | [] => rfl
  | (g, y) :: r => by
    unfold fput putF
    split
    · rfl
    · rw [fput_V f v r]
section
variable {K : PySem.W.Frag} {B F0 F F' H H' : Hp} {ρ ρ' st : Rho} {σ σ' vst : St} {v y : V} {d : D} {t t1 r u u' : T} {i j : Nat} {f : Str} {C : Addr}
theorem Own.objI {A : List Addr} {fs : List (Str × T)} (h : Own K F H v (.obj C fs) A) : ∃ a dx ks A', v = .ref a ∧ A = a :: A' ∧ H a = some (.ins C dx ks) ∧ ks.map (·.1) = fs.map (·.1) ∧ OwnL K F H (ks.map (·.2)) (fs.map (·.2)) A' := by
  cases h with
  | obj z1 z2 z3 => exact ⟨_, _, _, _, rfl, rfl, z1, z2, z3⟩
theorem OwnL.fput {A' : List Addr} (o : Own K F H y u A') : ∀ {ks : List (Str × V)} {fs : List (Str × T)} {A : List Addr}, ks.map (·.1) = fs.map (·.1) → OwnL K F H (ks.map (·.2)) (fs.map (·.2)) A →
    (Vl.fput f y ks).map (·.1) = (Vl.fput f u fs).map (·.1) ∧ ∃ A2, OwnL K F H ((Vl.fput f y ks).map (·.2)) ((Vl.fput f u fs).map (·.2)) A2 ∧ Less A2 (A ++ A')
  | [], [], _, _, .nil => ⟨rfl, A' ++ [], .cons o .nil, by simpa using Less.refl _⟩
  | [], _ :: _, _, h, _ => by simp at h
  | _ :: _, [], _, h, _ => by simp at h
  | (g, y1) :: ks, (g', u1) :: fs, _, h, .cons (A := A1) (B := A2) h1 q => by
    rw [List.map_cons, List.map_cons, List.cons.injEq] at h
    obtain ⟨rfl, h⟩ := h
    unfold Vl.fput
    by_cases e : g = f
    · rw [if_pos e, if_pos e]
      exact ⟨by simp [h], A' ++ A2, .cons o q, (Less.of_perm List.perm_append_comm).trans (Less.of_sub (List.Sublist.append (List.sublist_append_right A1 A2) (List.Sublist.refl A')))⟩
    · rw [if_neg e, if_neg e]
      obtain ⟨e1, A3, o3, l3⟩ := OwnL.fput o h q
      exact ⟨by simp [e1], A1 ++ A3, .cons h1 o3, by rw [List.append_assoc]; exact (Less.refl A1).app l3⟩
/-- x.f = y, x the owned object of slot i -/
theorem Rl.putO {fs : List (Str × T)} (h : Rl K B F0 (some u :: ρ) (some y :: σ) H) (hi : ρ[i]? = some (some t1)) (ht : t1 = .obj C fs ∨ ∃ a, t1 = .at_ a (.obj C fs)) :
    ∃ (a dx : Addr) (ks : List (Str × V)), σ[i]? = some (some (.ref a)) ∧ H a = some (.ins C dx ks) ∧ ks.length = fs.length ∧ Rl K B F0 (ρ.set i (some (reT t1 (.obj C (fput f u fs))))) σ (upd H a (.ins C dx (putF f y ks))) := by
  have h' : Rl K B F0 ([u].map some ++ ρ) ([y].map some ++ σ) H := h
  obtain ⟨a, o, vs, e1, e2, ⟨dx, ks, e3, e4, e5⟩, _, _, k'⟩ := h'.writeG (fun o vs => ∃ (dx : Addr) (ks : List (Str × V)), o = .ins C dx ks ∧ ks.map (·.1) = fs.map (·.1) ∧ vs = ks.map (·.2)) (i := i) (t := .obj C fs) (ts := fs.map (·.2)) rfl hi ht (fun _ _ e => by cases e) (fun {F H v A} ow => by
    obtain ⟨a, dx, ks, A', z1, z2, z3, z4, z5⟩ := ow.objI
    exact ⟨a, _, _, A', z1, z2, z3, z5, dx, ks, rfl, z4, rfl⟩)
  subst e3 e5
  refine ⟨a, dx, ks, e1, e2, by have := congrArg List.length e4; simpa using this, ?_⟩
  rw [← fput_V]
  have keys := fput_keys (f := f) (x := y) (y := u) e4
  exact k' _ ((fput f y ks).map (·.2)) ((fput f u fs).map (·.2)) (.obj C (fput f u fs)) (fun F H' A' e o => .obj e keys o) fun F H' A C' o1 o2 => by
    cases o2 with
    | cons o3 o4 =>
      cases o4
      obtain ⟨_, A', o5, l⟩ := OwnL.fput (f := f) o3 e4 o1
      exact ⟨A', o5, by simpa using l⟩
end
/-- a class whose __init__ keeps R -/
def Cn (P : Program) (w : World) (K : PySem.W.Frag) (mg : Str → Option Value) (base : Heap) (k : Nat) (x : Str) (C : Addr) (R : Pr) : Prop :=
  ∃ (f : Addr) (fd : FuncData) (ps : List Str), Mk K C f ∧ FnOk P w K mg base (L2.CX P w) k f fd ps (spF K R) ∧ mg x = some (.ref C) ∧ Binds K fd ps []
section
variable {X : Cx} {e a b c o : Expr} {es rest : List Expr} {sts : List Stmt} {ρ ρ' ρ1 ρ2 ρ3 : Rho} {d x y z : D} {r t t1 t0 u u' : T} {ts us : List T} {ds ds' : List D} {pos p p2 p3 pos' apos cpos : Pos} {i j k : Nat} {bo bo' : Bool} {f xa : Str} {Z : Outs} {C : Addr} {R : Pr}
/-- x.f = e, x the owned object of slot i -/
theorem s_fld {pa : Pos} {fs : List (Str × T)} (i : Nat) (he : Ev X e ρ r ρ1) (hi : ρ1[i]? = some (some t1)) (ht : t1 = .obj C fs ∨ ∃ a, t1 = .at_ a (.obj C fs)) (hc : Cls X.K C) (hn : NoAttr X.K C f) (hz : fs.length < 900) (h : Z.nx (ρ1.set i (some (reT t1 (.obj C (fput f r fs))))))
    (hN : X.N[i]? = some xa := by rfl) (hv : Vis X.env.scope xa := by first | exact Or.inl rfl | exact Or.inr (Or.inl rfl) | exact Or.inr (Or.inr rfl)) (hd1 : (xa == ("__debug__" : Str)) = false := by decide) (hcd : (xa == ("__classdict__" : Str)) = false := by decide)
    (hs : swapsWith e (some (.Attribute (.Name xa pa) f pos')) pos.line X.env = pure false := by rfl) : S1 X (.Assign [.Attribute (.Name xa pa) f pos'] e pos) ρ Z :=
  s1_of (ps_fld (pe_var hN hv hd1 hcd) (pe_u X e) hs) fun B F0 σ H De Wx tk R m => he B F0 [] [] σ H _ rfl R fun v H1 R1 => by
    have R1' : Rl X.K B F0 (some r :: ρ1) (some v :: σ) H1 := R1
    obtain ⟨a, dx, ks, g1, g2, g3, R2⟩ := R1'.putO (f := f) hi ht
    exact ⟨_, g1, a, C, dx, ks, rfl, g2, hc, hn, by omega, m.nx _ σ _ h R2⟩
/-- C(..) -/
theorem ev_make {x : Str} (c : Cn X.prog X.w X.K X.mg X.base k x C R) (hr : Room (k + 1) X.A) (ha : EvA X (e :: es) ρ ts ρ1) (hR : ∀ a, R (.at_ a (.obj C []) :: ts.map fun t => .v t.d) (fun r' ts' => r' = .v .non ∧ ∃ more, ts' = .at_ a u' :: more) (fun _ => False)) (hg : Gl X x := by rfl)
    (hdb : (x == ("__debug__" : Str)) = false := by decide) (he : starEach (e :: es) X.env = (false, eval e X.env) :: starEach es X.env := by rfl) (hpl : (backTo pos (starEach es X.env)).any (·.1) = false := by rfl) : Ev X (.Call (.Name x p) (e :: es) [] pos) ρ u' ρ1 := by
  obtain ⟨fa, fd, ps, M, F, hm, hb⟩ := c
  refine ev_of (pe_make M F hr hg hm hb .nil passL (pa_u X (e :: es)) hdb he hpl) fun B F0 st vst σ H Q hl R0 kk => ha.frz B F0 st vst σ H _ hl R0 fun vs H1 hl1 R1 => ?_
  intro q dx hq hdx ne
  have R2 := rl_v (ts.map T.d) (by simpa [List.map_map, Function.comp_def] using R1)
  have hl2 : vs.length = (ts.map T.d).length := by simpa using hl1
  have sm : Same H1 (upd H1 dx (.own q)) := fun b w hw => by rw [upd_ne (ne_of_none hw hdx)]; exact hw
  have hq' : upd H1 dx (.own q) q = none := by rw [upd_ne (Ne.symm ne)]; exact hq
  have R3 := Rl.newOwn (ts := []) (vs := []) (o := .ins C dx []) (t := .obj C []) (R2.heap sm) rfl hq' fun F H' A hH ho => .obj (fs := []) (ts := []) hH rfl ho
  have R4 : Rl X.K B F0 (((ts.map T.d).map fun d => some (T.v d)) ++ ([] ++ (some (.obj C []) :: (st ++ ρ1)))) (vs.map some ++ ([] ++ (some (.ref q) :: (vst ++ σ)))) (upd (upd H1 dx (.own q)) q (.ins C dx [])) :=
    Rl.swap (ρ1 := [some (.obj C [])]) (ρ2 := (ts.map T.d).map fun d => some (T.v d)) (σ1 := [some (.ref q)]) (σ2 := vs.map some) rfl (by simp [hl2]) R3
  obtain ⟨B', F', a, hv1, _, Rc, back⟩ := R4.calleeG (i := 0) (u0 := .obj C []) (t1 := .obj C []) hl2 rfl rfl (.inl rfl) (fun _ _ e => by cases e) fun F H v A o => by
    obtain ⟨a, _, _, _, e, _⟩ := o.objI
    exact ⟨a, e⟩
  simp at hv1
  subst hv1
  refine ⟨B', F', .at_ q (.obj C []) :: ts.map fun t => .v t.d, _, _, by simpa using hl1, by simpa [List.map_map, Function.comp_def] using Rc, hR q, fun r' ts' v H' e h => ?_, fun _ _ _ _ _ h _ _ => h.elim⟩
  obtain ⟨rfl, more, rfl⟩ := e
  have h2 := back _ _ _ _ _ _ h
  have h3 : Rl X.K B F0 (some (.v .non) :: some u' :: (st ++ ρ1)) (some v :: some (.ref q) :: (vst ++ σ)) H' := h2
  refine ⟨?_, kk _ H' h3.drop⟩
  obtain ⟨F, _, hd⟩ := h3.elimF
  cases hd
  rfl
end
end Vl
end
section
set_option maxRecDepth 100000
namespace Vl
open PySem L2
theorem v_inj : ∀ {ds es : List D}, ds.map T.v = es.map T.v → ds = es
  | [], [], _ => rfl
  | [], _ :: _, h => by simp at h
  | _ :: _, [], h => by simp at h
  | a :: ds, b :: es, h => by
    rw [List.map_cons, List.map_cons, List.cons.injEq] at h
    obtain ⟨h1, h2⟩ := h
    injection h1 with h1
    rw [h1, v_inj h2]
theorem map_vd : ∀ ds : List D, (ds.map T.v).map T.d = ds
  | [] => rfl
  | d :: ds => by rw [List.map_cons, List.map_cons, T.d_v, map_vd ds]
theorem map_vv : ∀ ds : List D, ((ds.map T.v).map fun t => T.v t.d) = ds.map T.v
  | [] => rfl
  | d :: ds => by rw [List.map_cons, List.map_cons, T.d_v, map_vv ds]
theorem lst_vd (ds : List D) : (T.lst (ds.map T.v)).d = .lst ds := by rw [T.d_lst, map_vd]
section
variable {X : Cx} {e a b c o : Expr} {es rest : List Expr} {ρ ρ1 ρ2 ρ3 : Rho} {d x y z : D} {r t u' : T} {ts us : List T} {pos p p2 : Pos} {i k : Nat} {f xa : Str} {R : Pr} {C : Addr}
theorem Iter.to {tg it : Expr} {n n' : Nat} {item item' : Nat → D} (h : Iter X tg it ρ ρ1 n item) (hn : n = n') (e : ∀ i, i < n' → item i = item' i) : Iter X tg it ρ ρ1 n' item' := by
  subst hn
  exact h.eq e
/-- f(..), plain data given -/
theorem ev_callV (ds : List D) (Fd : Fn X.prog X.w X.K X.mg X.base k f R) (hr : Room k X.A) (ha : EvA X (e :: es) ρ (ds.map T.v) ρ1) (hR : R (ds.map T.v) (fun r' _ => r' = r) (fun _ => False)) (hg : Gl X f := by rfl) (hdb : (f == ("__debug__" : Str)) = false := by decide)
    (he : starEach (e :: es) X.env = (false, eval e X.env) :: starEach es X.env := by rfl) (hpl : (backTo pos (starEach es X.env)).any (·.1) = false := by rfl) : Ev X (.Call (.Name f p) (e :: es) [] pos) ρ r ρ1 :=
  ev_call Fd hr ha (by rw [map_vv]; exact hR) hg hdb he hpl
theorem er_callV {xn : Xn} (ds : List D) (Fd : Fn X.prog X.w X.K X.mg X.base k f R) (hr : Room k X.A) (ha : EvA X (e :: es) ρ (ds.map T.v) ρ1) (hR : R (ds.map T.v) (fun _ _ => False) (fun x' => x' = xn)) (hg : Gl X f := by rfl) (hdb : (f == ("__debug__" : Str)) = false := by decide)
    (he : starEach (e :: es) X.env = (false, eval e X.env) :: starEach es X.env := by rfl) (hpl : (backTo pos (starEach es X.env)).any (·.1) = false := by rfl) : Er X (.Call (.Name f p) (e :: es) [] pos) ρ xn ρ1 :=
  er_call Fd hr ha (by rw [map_vv]; exact hR) hg hdb he hpl
theorem ev_makeV {x : Str} (ds : List D) (cn : Cn X.prog X.w X.K X.mg X.base k x C R) (hr : Room (k + 1) X.A) (ha : EvA X (e :: es) ρ (ds.map T.v) ρ1) (hR : ∀ a, R (.at_ a (.obj C []) :: ds.map T.v) (fun r' ts' => r' = .v .non ∧ ∃ more, ts' = .at_ a u' :: more) (fun _ => False)) (hg : Gl X x := by rfl)
    (hdb : (x == ("__debug__" : Str)) = false := by decide) (he : starEach (e :: es) X.env = (false, eval e X.env) :: starEach es X.env := by rfl) (hpl : (backTo pos (starEach es X.env)).any (·.1) = false := by rfl) : Ev X (.Call (.Name x p) (e :: es) [] pos) ρ u' ρ1 :=
  ev_make cn hr ha (fun a => by rw [map_vv]; exact hR a) hg hdb he hpl
/-- f(x, ..), x an owned list that f may change -/
theorem ev_callMV {pa : Pos} (ds : List D) (i : Nat) {t0 t1 : T} (Fd : Fn X.prog X.w X.K X.mg X.base k f R) (hr : Room k X.A) (ha : EvA X es ρ (ds.map T.v) ρ1) (hi : ρ1[i]? = some (some t1)) (ht : t1 = .lst us ∨ ∃ a, t1 = .at_ a (.lst us))
    (hR : ∀ a, R (.at_ a (.lst us) :: ds.map T.v) (fun r' ts' => r' = r ∧ ∃ more, ts' = .at_ a u' :: more) (fun _ => False)) (h2 : ρ2 = ρ1.set i (some (reT t1 u'))) (hi0 : ρ[i]? = some (some t0) := by rfl) (hN : X.N[i]? = some xa := by rfl) (hv : Vis X.env.scope xa := by first | exact Or.inl rfl | exact Or.inr (Or.inl rfl) | exact Or.inr (Or.inr rfl)) (hg : Gl X f := by rfl)
    (hd1 : (xa == ("__debug__" : Str)) = false := by decide) (hcd : (xa == ("__classdict__" : Str)) = false := by decide) (hdb : (f == ("__debug__" : Str)) = false := by decide)
    (he : starEach (.Name xa pa :: es) X.env = (false, eval (.Name xa pa) X.env) :: starEach es X.env := by rfl) (hpl : (backTo pos (starEach es X.env)).any (·.1) = false := by rfl) :
    Ev X (.Call (.Name f p) (.Name xa pa :: es) [] pos) ρ r ρ2 :=
  ev_callM i Fd hr ha hi ht (fun a => by rw [map_vv]; exact hR a) h2 hi0 hN hv hg hd1 hcd hdb he hpl
/-- a name whose list is let go -/
theorem ev_varL {ds : List D} {x : Str} (i : Nat) (hr : ρ[i]? = some (some (.lst (ds.map T.v))) := by rfl) (hN : X.N[i]? = some x := by rfl) (hv : Vis X.env.scope x := by first | exact Or.inl rfl | exact Or.inr (Or.inl rfl) | exact Or.inr (Or.inr rfl)) (hd : (x == ("__debug__" : Str)) = false := by decide)
    (hcd : (x == ("__classdict__" : Str)) = false := by decide) : Ev X (.Name x pos) ρ (.v (.lst ds)) (ρ.set i (some (.v (.lst ds)))) := by
  have := ev_varF (pos := pos) i hr hN hv hd hcd
  rwa [lst_vd] at this
/-- a list of plain data let go -/
theorem ev_frzL {ds : List D} (h : Ev X e ρ (.lst (ds.map T.v)) ρ1) : Ev X e ρ (.v (.lst ds)) ρ1 := by
  have := ev_frz h
  rwa [lst_vd] at this
end
end Vl
end
section
set_option maxRecDepth 100000
namespace Vl
open PySem L2
/-! ### answers of which only something is known -/
def EvN (X : Cx) (e : Expr) (ρ : Rho) (Φ : T → Rho → Prop) : Prop :=
  ∀ (B F0 : Hp) (st : Rho) (vst : St) (σ : St) (H : Hp) (Q : VK), vst.length = st.length → Rl X.K B F0 (st ++ ρ) (vst ++ σ) H →
    (∀ r ρ1 v H', Φ r ρ1 → Rl X.K B F0 (some r :: (st ++ ρ1)) (some v :: (vst ++ σ)) H' → Q v H') → tE X e σ H Q
def TvN (X : Cx) (e : Expr) (ρ : Rho) (Φ : Bool → Rho → Prop) : Prop :=
  ∀ (B F0 : Hp) (st : Rho) (vst : St) (σ : St) (H : Hp) (Q : Bool → Hp → Prop), vst.length = st.length → Rl X.K B F0 (st ++ ρ) (vst ++ σ) H →
    (∀ b ρ1 H', Φ b ρ1 → Rl X.K B F0 (st ++ ρ1) (vst ++ σ) H' → Q b H') → tTt X e σ H Q
theorem inV_ints (x : Int) : ∀ ns : List Int, inV (V.int x) (ns.map V.int) = decide (x ∈ ns)
  | [] => rfl
  | n :: ns => by
    have e1 : inV (V.int x) ((n :: ns).map V.int) = ((n == x) || inV (V.int x) (ns.map V.int)) := rfl
    rw [e1, inV_ints x ns]
    by_cases h : n = x
    · subst h; simp
    · have h2 : ¬ x = n := fun z => h z.symm
      simp [h, h2]
section
variable {X : Cx} {e a b c o : Expr} {es rest : List Expr} {sts body : List Stmt} {ρ ρ1 ρ2 ρ3 : Rho} {d x y z : D} {r t u' : T} {ts us : List T} {pos p p2 : Pos} {i k : Nat} {f xa : Str} {R : Pr} {C : Addr} {Φ : T → Rho → Prop} {Z : Outs}
theorem evn_callV (ds : List D) (Fd : Fn X.prog X.w X.K X.mg X.base k f R) (hr : Room k X.A) (ha : EvA X (e :: es) ρ (ds.map T.v) ρ1) (hR : R (ds.map T.v) (fun r' _ => Φ r' ρ1) (fun _ => False)) (hg : Gl X f := by rfl) (hdb : (f == ("__debug__" : Str)) = false := by decide)
    (he : starEach (e :: es) X.env = (false, eval e X.env) :: starEach es X.env := by rfl) (hpl : (backTo pos (starEach es X.env)).any (·.1) = false := by rfl) : EvN X (.Call (.Name f p) (e :: es) [] pos) ρ Φ := by
  obtain ⟨fa, fd, ps, F, hm, hk, hb⟩ := Fd
  refine fun B F0 st vst σ H Q hl R0 kk => ⟨_, pe_callS F hr hg hm hk hb passE0 (pa_u X (e :: es)) hdb he hpl, ha.frz B F0 st vst σ H _ hl R0 fun vs H1 hl1 R1 => ?_⟩
  rw [map_vv] at R1
  have R2 := rl_v ds R1
  have hl2 : vs.length = ds.length := by simpa using hl1
  obtain ⟨F', _, Rc, back, _⟩ := R2.callee hl2
  exact ⟨H1, F', ds.map T.v, _, _, by simpa using hl2, by simpa [List.map_map, Function.comp_def] using Rc, hR, fun r' ts' v H' e h => kk _ _ v H' e (back _ _ _ _ _ h), fun _ _ _ _ _ h _ _ => h.elim⟩
theorem tvn_cmp {op : CmpOp} {q : R2} (ho : OpR X (compareOp op) q) (ha : EvN X a ρ Φ) (hb : ∀ r ρ1, Φ r ρ1 → ∃ x, r = .v x ∧ Ev X b ρ1 (.v y) ρ1) {Ψ : Bool → Rho → Prop} (hq : ∀ x ρ1, Φ (.v x) ρ1 → ∃ bo, Ψ bo ρ1 ∧ ∀ (H : Hp) (v u : V) (Q : VK), Den X.K H v x → Den X.K H u y → Q (.bl bo) H → q v u H Q) (hm : behindInMarks op b = false := by first | exact nomark _ | rfl) : TvN X (.Compare a [op] [b] pos) ρ Ψ :=
  fun B F0 st vst σ H Q hl R k => ⟨_, pt_cmpR ho (pe_u X a) (pe_u X b) hm, ha B F0 st vst σ H _ hl R fun r ρ1 v H1 hf R1 => by
    obtain ⟨x, rfl, he⟩ := hb r ρ1 hf
    obtain ⟨bo, hp, hqq⟩ := hq x ρ1 hf
    exact he B F0 (some (.v x) :: st) (some v :: vst) σ H1 _ (by simp [hl]) R1 fun u H2 R2 => hqq H2 v u _ R2.drop.den R2.den ⟨bo, rfl, k bo ρ1 H2 hp R2.drop.drop⟩⟩
theorem s_ifN {Ψ : Bool → Rho → Prop} (hc : TvN X c ρ Ψ) (h1 : ∀ ρ1, Ψ true ρ1 → S X sts ρ1 Z) (h2 : ∀ ρ1, Ψ false ρ1 → S X body ρ1 Z) : S1 X (.If c sts body pos) ρ Z := s1_of (ps_if (pt_u X c) (pss_u X sts) (pss_u X body)) fun B F0 σ H De Wx tk R m => hc B F0 [] [] σ H _ rfl R fun bo ρ1 H1 hp R1 => by
  cases bo with
  | true => exact iteT (h1 ρ1 hp B F0 σ H1 De Wx tk R1 m)
  | false => exact iteF (h2 ρ1 hp B F0 σ H1 De Wx tk R1 m)
theorem s_retN' (he : EvN X e ρ Φ) (h : ∀ r ρ1, Φ r ρ1 → Z.rt r ρ1) : S1 X (.Return (some e) pos) ρ Z := s1_of (ps_ret (pe_u X e)) fun B F0 σ H De Wx tk R m => he B F0 [] [] σ H _ rfl R fun r ρ1 v H1 hf R1 => m.rt r ρ1 v σ H1 (h r ρ1 hf) R1
/-- a for with one way out -/
theorem s_forB {tg it : Expr} {n : Nat} {item : Nat → D} (I : Nat → Rho → Prop) (J : Rho → Prop) (g : Gd X) (hit : Iter X tg it ρ ρ1 n item) (h0 : I 0 ρ1) (hs : ∀ i ρ', i < n → I i ρ' → ∃ ρ2, Tg X tg (item i) ρ' ρ2 ∧ S X body ρ2 { Z with nx := I (i + 1), ct := I (i + 1), bk := J })
    (hd : ∀ ρ', I n ρ' → J ρ') (hJ : ∀ ρ', J ρ' → Z.nx ρ') (hfs : ∀ x, foldedSetIterable it X.env x = pure x := by intro _; rfl) : S1 X (.For tg it body [] pos) ρ Z :=
  s_for I g hit h0 (fun i ρ' hi h => let ⟨ρ2, ht, hb⟩ := hs i ρ' hi h; ⟨ρ2, ht, hb.imp (fun _ h => h) (fun _ _ h => h) (fun _ h => hJ _ h) (fun _ h => h) (fun _ _ h => h)⟩) (fun ρ' h => hJ ρ' (hd ρ' h)) hfs
/-- an if whose ways meet again -/
theorem s_ifJ {bo : Bool} (J : Rho → Prop) (hc : Tv X c ρ bo ρ1) (h1 : bo = true → S X sts ρ1 { Z with nx := J }) (h2 : bo = false → S X body ρ1 { Z with nx := J }) (hJ : ∀ ρ', J ρ' → Z.nx ρ') : S1 X (.If c sts body pos) ρ Z :=
  s_if hc (fun e => (h1 e).imp (fun _ h => hJ _ h) (fun _ _ h => h) (fun _ h => h) (fun _ h => h) (fun _ _ h => h)) fun e => (h2 e).imp (fun _ h => hJ _ h) (fun _ _ h => h) (fun _ h => h) (fun _ h => h) (fun _ _ h => h)
/-- x in xs, ints -/
theorem cv_inI {x : Int} {ns : List Int} {bo : Bool} (h : decide (x ∈ ns) = bo) : CmpV X .In (.int x) (.lst (ns.map D.int)) bo := ⟨_, op_in_seq, fun H v u Q hv hu k => by
  subst h
  cases hv
  cases hu with
  | lst hq q =>
    rw [den_ints q] at hq
    refine ⟨_, _, rfl, .inl hq, rfl, by simp [flatV], ?_⟩
    simpa [inV_ints] using k⟩
theorem cv_notInI {x : Int} {ns : List Int} {bo : Bool} (h : (!decide (x ∈ ns)) = bo) : CmpV X .NotIn (.int x) (.lst (ns.map D.int)) bo := ⟨_, op_notIn_seq, fun H v u Q hv hu k => by
  subst h
  cases hv
  cases hu with
  | lst hq q =>
    rw [den_ints q] at hq
    refine ⟨_, _, rfl, .inl hq, rfl, by simp [flatV], ?_⟩
    simpa [inV_ints] using k⟩
end
end Vl
end
section
set_option maxRecDepth 100000
set_option maxHeartbeats 4000000
/-! set(xs), xs a list of ints -/
namespace Vl
open PySem PySem.Spec PyProof.Rows L2
section
variable {P : Program} {w : World} {A : Around} {E : Value → Shared → Prop} {s : Shared}
theorem call_setL {l : Addr} {items : Array Value} (ns : List Int) {Q : Value → Shared → Prop} (hh : A.handled = none) (hl : s.heap.IsList l items) (hit : IntsAre items.toList ns) (hb : ns.length + 1 < scanBound)
    (h : ∀ (h' : Heap) (tk c : Nat), SetR w h' s.heap.objs.size (fun j => decide (j ∈ ns)) c → c ≤ ns.length → (∀ b o, s.heap.get? b = some o → h'.get? b = some o) → Q (.ref s.heap.objs.size) { s with heap := h', toks := tk }) :
    wpAny (model P w) A (call (.type "set") [.ref l]) Q E s := by
  have hz : items.size = ns.length := (Array.length_toList (xs := items)).symm.trans (IntsAre.length hit)
  obtain ⟨_, _, hmro⟩ := F.called_set.mro
  have f1 := F.called_set.made
  have f2 := F.called_set.sub
  refine wpAny_call (codeAny_of_tree ?_)
  show wpAny _ _ (callAny (.type "set") _) _ _ _
  refine wpAny_pure ⟨Code.quiet_builtin _ (by decide +kernel), codeAny_builtin F.entry_type_call ?_⟩
  rw [Around.under_plain (weight_type_call_type "set" [.ref l] []) rfl]
  have f3 := F.called_set.notType
  have f4 := F.called_set.canCreate
  have f5 := F.typeCall_set_1 (.ref l)
  repeat (any_goals (first | assumption | wp_step))
  obtain ⟨h1, eh1⟩ : ∃ h1 : Heap, h1 = s.heap.push (noSet w) := ⟨_, rfl⟩
  refine codeAny_mono (code_set_led1 (.ref l) (E := E) (Q₁ := fun z u => z = .ref s.heap.objs.size ∧ u = { s with heap := h1 }) ⟨rfl, by rw [eh1]⟩) fun r u hr => ?_
  cases r with
  | error e => exact hr
  | ok fl =>
    cases fl with
    | ret z =>
      obtain ⟨rfl, rfl⟩ := hr
      have at1 : h1.get? s.heap.objs.size = some (noSet w) := by rw [eh1]; exact Heap.get?_push_size _ rfl
      have sz1 : h1.objs.size = s.heap.objs.size + 1 := by rw [eh1]; exact Heap.size_push ..
      have up1 : ∀ b o, s.heap.get? b = some o → h1.get? b = some o := fun b o e => by rw [eh1]; exact Heap.get?_push_of_some _ e
      have ty1 : Shared.TypeIs { s with heap := h1 } (.ref s.heap.objs.size) "set" := ⟨_, at1, rfl⟩
      have f6 := F.called_set.init.lookup
      have f7 := F.called_set.init.bind (.ref s.heap.objs.size)
      repeat (any_goals (first | assumption | wp_step))
      refine codeAny_mono (codeAny_call_builtin (R := wants (fun z u => z = .none ∧ ∃ h' tk c, u = { s with heap := h', toks := tk } ∧ SetR w h' s.heap.objs.size (fun j => decide (j ∈ ns)) c ∧ c ≤ ns.length ∧
          (∀ b o, s.heap.get? b = some o → h'.get? b = some o)) E) F.called_set.init.plain F.entry_set_init (check_set_init_1 ty1 ?_)) fun r2 u2 hr2 => ?_
      · obtain ⟨⟨cl, di, da, sl⟩, ho, hc, n, hd⟩ := hl
        simp only at hc hd
        subst hc hd
        have ho1 := up1 l _ ho
        have g1 := F.sub_list_set
        have g2 := F.sub_list_frozenset
        have g3 : (Value.type "list" == Value.type "dict") = false := by decide
        have hl1 : h1.IsList l items := ⟨_, ho1, rfl, n, rfl⟩
        unfold Builtin.«set.__init__» noKeywords Builtin.Frozenset.updateFrom
        generalize hPI : pyIter = PI
        wp_walk
        subst hPI
        refine wpAny_pyIter_list hl1 ?_
        refine wpAny_bind (wpAny_runValue ?_)
        have lt : l < s.heap.objs.size := Heap.lt_size ho
        have nh : A.in1.in1.in1.handled = none := by simp [hh]
        have nI : l ≠ h1.objs.size := by rw [sz1]; exact Nat.ne_of_lt (Nat.lt_succ_of_lt lt)
        have val : ∀ (i : Nat) (v : Value), items[i]? = some v → ∃ k t, ns[i]? = some k ∧ v = .int k t := fun i v hv => by
          have hi : i < ns.length := by rw [← hz]; exact (Array.getElem?_eq_some_iff.mp hv).1
          obtain ⟨t, e⟩ := PyProof.Rows.IntsAre.int_at hit i v (by rw [Array.getElem?_toList]; exact hv)
          exact ⟨ns[i], t, List.getElem?_eq_getElem hi, by rw [e, List.getD_eq_getElem?_getD, List.getElem?_eq_getElem hi]; rfl⟩
        refine set_update_ints ((Walks.list nh _ l nI items).toS) s.heap.objs.size (by rw [sz1]; simp only [List.mem_cons, List.not_mem_nil, or_false, not_or]; exact ⟨Nat.ne_of_lt (Nat.lt_succ_self _), Nat.ne_of_gt lt⟩) ns hz hb val (items.size - 0) 0 _ (by omega) (Nat.zero_le _) ⟨⟨_, Heap.get?_push_size _ rfl, rfl, rfl⟩, hl1.push _⟩ ⟨0, Nat.le_refl 0, setR_new_at (Heap.get?_push_of_some _ at1)⟩ ?_
        intro u3 c hm hc hS
        obtain ⟨h', g2', d', tk', os'⟩ := u3
        cases (hm.gens : g2' = s.gens)
        cases (hm.drawn : d' = s.drawn)
        cases (hm.os : os' = s.os)
        show wpAny _ _ _ _ _ _
        refine wpAny_pure ?_
        show wpAny _ _ (ret Value.none) _ _ _
        refine wpAny_pure ⟨rfl, h', tk', c, rfl, hS, by rw [← hz]; exact hc, fun b o e => hm.heap b o ?_ (Heap.get?_push_of_some _ (up1 b o e))⟩
        have lb := Heap.lt_size e
        simp only [List.mem_cons, List.not_mem_nil, or_false, not_or]
        exact ⟨Nat.ne_of_lt lb, by rw [sz1]; exact Nat.ne_of_lt (Nat.lt_succ_of_lt lb)⟩
      · cases r2 with
        | error e => exact hr2
        | ok fl2 =>
          cases fl2 with
          | ret z2 =>
            obtain ⟨rfl, h', tk, c, rfl, hS, hc, up⟩ := hr2
            repeat (any_goals (first | assumption | wp_step))
            exact h _ _ _ hS hc up
          | _ => exact hr2.elim
    | _ => exact hr.elim
end
end Vl
end
section
set_option maxRecDepth 100000
namespace Vl
open PySem L2
def rSetLI (K : PySem.W.Frag) (w : World) : List V → Hp → VK → Prop := fun xs H Q => ∃ (l : Addr) (ns : List Int), xs = [.ref l] ∧ SqL K H l (ns.map V.int) ∧ ns.length < 64 ∧ ∀ a c, H a = none → c ≤ ns.length → Q (.ref a) (upd H a (SetO w a (fun j => decide (j ∈ ns)) c))
theorem cr_setLI {X : Cx} (hc : X.calm = true) : CallR X (.type "set") (rSetLI X.K X.w) := by
  rintro pins s σ H xs us Q I r ⟨l, ns, rfl, hq, hz, q⟩
  obtain ⟨its, rv, pl, _⟩ := I.list hq
  rw [Vals.ref1 r]
  have sc : (64 : Nat) < scanBound := by decide
  refine call_setL ns (I.ok.hd hc) pl.isList (by simpa using rv.ints) (by omega) fun h' tk c hS hcl up => ?_
  exact ⟨.ref _, upd H s.heap.objs.size (SetO X.w s.heap.objs.size (fun j => decide (j ∈ ns)) c), I.laid (t' := tk) up (Nat.le_refl _) (setO_new hS), rfl, q _ c (I.hok.fresh (Nat.le_refl _)) hcl⟩
section
variable {X : Cx} {e a b c o : Expr} {es rest : List Expr} {sts body : List Stmt} {ρ ρ1 ρ2 ρ3 : Rho} {d x y z : D} {r t u' : T} {ts us : List T} {pos p p2 pos2 : Pos} {i k : Nat} {f xa : Str} {R : Pr} {C : Addr} {Z : Outs} {ds : List D}
theorem den_sub_ints {K : PySem.W.Frag} {F : Hp} {v : V} {ns : List Int} (h : Den K F v (.lst (ns.map D.int))) : ∃ l, v = .ref l ∧ SqL K F l (ns.map V.int) := by
  cases h with
  | lst hq q => exact ⟨_, rfl, by rw [← den_ints q]; exact hq⟩
/-- sorted(set(xs)), xs ints -/
theorem ev_sortedSet {ns ms : List Int} (g : Gd X) (ha : Ev X e ρ (.v (.lst (ns.map D.int))) ρ1) (hz : ns.length < 64) (up : ms.Pairwise (· < ·)) (hms : ∀ k, k ∈ ms ↔ k ∈ ns) (hm : X.mg "sorted" = none) (hm2 : X.mg "set" = none) (hg : Gl X "sorted" := by rfl) (hg2 : Gl X "set" := by rfl)
    (he : starEach [e] X.env = (false, eval e X.env) :: starEach [] X.env := by rfl) (he2 : starEach [.Call (.Name "set" p2) [e] [] pos2] X.env = (false, eval (.Call (.Name "set" p2) [e] [] pos2) X.env) :: starEach [] X.env := by rfl) :
    Ev X (.Call (.Name "sorted" p) [.Call (.Name "set" p2) [e] [] pos2] [] pos) ρ (.lst ((ms.map D.int).map T.v)) ρ1 :=
  ev_of (pe_callB (cr_sortedSet g.calm) hg hm PyProof.Rows.boot_sorted (pa_cons (pe_callTy (cr_setLI g.calm) hg2 hm2 PyProof.Rows.boot_set (pa_cons (pe_u X e) pa_nil he) (he := he)) pa_nil he2) (he := he2)) fun B F0 st vst σ H Q hl R k => ha B F0 st vst σ H _ hl R fun v H1 R1 => by
    obtain ⟨F, RF, hd⟩ := R1.elimF
    obtain ⟨l, rfl, hq⟩ := den_sub_ints hd
    refine ⟨l, ns, rfl, RF.sub.sqL hq, hz, fun D0 c0 hD hc => ?_⟩
    have R2 : Rl X.K B F0 (st ++ ρ1) (vst ++ σ) (upd H1 D0 (SetO X.w D0 (fun j => decide (j ∈ ns)) c0)) := RF.rl.heap fun b w hw => by rw [upd_ne (ne_of_none hw hD)]; exact hw
    refine ⟨D0, _, c0, rfl, upd_same, by omega, fun ns' p h1 h2 h3 hp => ?_⟩
    have nd1 : ns'.Nodup := h1.imp fun {a b} h e => by omega
    have nd2 : ms.Nodup := up.imp fun {a b} h e => by omega
    have pm : ns'.Perm ms := (List.perm_ext_iff_of_nodup nd1 nd2).2 fun x => (h2 x).trans ((by simp : decide (x ∈ ns) = true ↔ x ∈ ns).trans (hms x).symm)
    have : ns' = ms := List.Perm.eq_of_pairwise (le := fun a b : Int => a < b) (fun a b _ _ h1 h2 => by omega) h1 up pm
    subst this
    refine k _ _ (Rl.newLst (ts := (ns'.map D.int).map T.v) (vs := ns'.map V.int) ?_ (by simp) hp)
    clear h2 h3 nd1 nd2 pm hms up h1 k
    induction ns' with
    | nil => exact R2
    | cons i l ih => exact ih.pushS fun _ => .int _
theorem owns_ints {K : PySem.W.Frag} {F H : Hp} : ∀ {ns : List Int} {xs : List V} {A : List Addr}, OwnL K F H xs ((ns.map D.int).map T.v) A → xs = ns.map V.int
  | [], _, _, .nil => rfl
  | _ :: _, _, _, .cons h t => by
    cases h with
    | v hd => cases hd; rw [owns_ints t]; rfl
/-- x not in xs, xs the owned list of slot i, ints -/
theorem tv_notInO {n : Int} {ns : List Int} (i : Nat) (ha : Ev X a ρ (.v (.int n)) ρ1) (hi : ρ1[i]? = some (some (.lst ((ns.map D.int).map T.v)))) (hN : X.N[i]? = some xa := by rfl) (hv : Vis X.env.scope xa := by first | exact Or.inl rfl | exact Or.inr (Or.inl rfl) | exact Or.inr (Or.inr rfl))
    (hd1 : (xa == ("__debug__" : Str)) = false := by decide) (hcd : (xa == ("__classdict__" : Str)) = false := by decide) : Tv X (.Compare a [.NotIn] [.Name xa p] pos) ρ (!decide (n ∈ ns)) ρ1 :=
  tv_of (pt_cmpR op_notIn_seq (pe_u X a) (pe_var hN hv hd1 hcd) (by rfl)) fun B F0 st vst σ H Q hl R kk => ha B F0 st vst σ H _ hl R fun v H1 R1 => by
    have ev := R1.headI
    obtain ⟨w, F, A, e1, ow, eF, _⟩ := R1.drop.slot hl hi
    obtain ⟨a, xs, C, rfl, _, hH, hx⟩ := ow.lstI
    have hxs := owns_ints hx
    subst hxs
    refine ⟨_, e1, ⟨a, _, rfl, .inl (SqL.of hH), by rw [ev]; rfl, by simp [flatV], ⟨!decide (n ∈ ns), ?_, kk H1 R1.drop⟩⟩⟩
    rw [ev]
    simp [inV_ints]
theorem RlF.pushL {K : PySem.W.Frag} {B F0 F H : Hp} {ρ : Rho} {σ : St} (R : RlF K B F0 F ρ σ H) : ∀ {vs : List V} {ds : List D}, DenL K F vs ds → RlF K B F0 F ((ds.map T.v).map some ++ ρ) (vs.map some ++ σ) H
  | _, _, .nil => R
  | _, _, .cons h t => by
    obtain ⟨A, e0, e1, e2, dm, o, nd, fr⟩ := RlF.pushL R t
    exact ⟨A, e0, e1, e2, dm, OwnS.cons (A := []) (.v h) o, nd, fr⟩
theorem owns_den {K : PySem.W.Frag} {F H : Hp} : ∀ {ds : List D} {xs : List V} {A : List Addr}, OwnL K F H xs (ds.map T.v) A → DenL K F xs ds
  | [], _, _, .nil => .nil
  | _ :: _, _, _, .cons h t => by
    cases h with
    | v hd => exact .cons hd (owns_den t)
/-- xs + e, xs the owned list of slot i, which stays -/
theorem ev_catO (i : Nat) (hi : ρ[i]? = some (some (.lst (ds.map T.v)))) (hb : Ev X b ρ (.lst us) ρ) (hz : ds.length + us.length ≤ 100000) (hN : X.N[i]? = some xa := by rfl) (hv : Vis X.env.scope xa := by first | exact Or.inl rfl | exact Or.inr (Or.inl rfl) | exact Or.inr (Or.inr rfl))
    (hd1 : (xa == ("__debug__" : Str)) = false := by decide) (hcd : (xa == ("__classdict__" : Str)) = false := by decide) : Ev X (.BinOp (.Name xa p) .Add b pos) ρ (.lst (ds.map T.v ++ us)) ρ :=
  ev_of (pe_op op_cat (pe_var hN hv hd1 hcd) (pe_u X b)) fun B F0 st vst σ H Q hl R k => by
    obtain ⟨w, _, _, e1, _⟩ := R.slot hl hi
    refine ⟨w, e1, hb B F0 st vst σ H _ hl R fun v H1 R1 => ?_⟩
    obtain ⟨bb, zs, rfl, hB, lB, R3⟩ := R1.openL
    obtain ⟨F, RF⟩ := R3
    obtain ⟨A, e0, eF, e2, dm, os, nd, fr⟩ := id RF
    obtain ⟨A1, A2, rfl, o1, o2⟩ := os.split (by simp [lB])
    obtain ⟨A3, A4, rfl, o3, o4⟩ := o2.split hl
    obtain ⟨w', B1, B2, B3, e4, rfl, ow, _, _⟩ := o4.at hi
    rw [e1] at e4
    cases e4
    obtain ⟨aa, xs, C, rfl, _, hH, hx⟩ := ow.lstI
    have lx := hx.len
    rw [List.length_map] at lx
    have R5 := (RF.pushL (owns_den hx)).rl
    refine ⟨aa, bb, xs, zs, rfl, rfl, hH, hB, by rw [lx, lB, sizeLine_eq]; omega, fun q hq => k _ _ (Rl.newLst (ts := ds.map T.v ++ us) (vs := xs ++ zs) ?_ (by simp [lx, lB]) hq)⟩
    simpa [List.append_assoc] using R5
end
end Vl
end
section
set_option maxRecDepth 100000
namespace Vl
open PySem L2
section
variable {X : Cx} {e a b c o : Expr} {es rest : List Expr} {sts body : List Stmt} {ρ ρ1 ρ2 ρ3 : Rho} {d x y z : D} {r t : T} {ts us : List T} {pos p p2 pos2 pos' : Pos} {i k : Nat} {f xa : Str} {R : Pr} {C : Addr} {Z : Outs} {ds : List D} {Φ : T → Rho → Prop}
/-- f(x, ..), x an owned list that f changes, of the answer only something known: Ψ of the answer and of what x is then -/
theorem evn_callMV {pa : Pos} (ds : List D) (i : Nat) {t0 t1 : T} (Ψ : T → T → Prop) (Fd : Fn X.prog X.w X.K X.mg X.base k f R) (hr : Room k X.A) (ha : EvA X es ρ (ds.map T.v) ρ1) (hi : ρ1[i]? = some (some t1)) (ht : t1 = .lst us ∨ ∃ a, t1 = .at_ a (.lst us))
    (hR : ∀ a, R (.at_ a (.lst us) :: ds.map T.v) (fun r' ts' => ∃ u' more, Ψ r' u' ∧ ts' = .at_ a u' :: more) (fun _ => False)) (h2 : ∀ r u', Ψ r u' → Φ r (ρ1.set i (some (reT t1 u')))) (hi0 : ρ[i]? = some (some t0) := by rfl) (hN : X.N[i]? = some xa := by rfl) (hv : Vis X.env.scope xa := by first | exact Or.inl rfl | exact Or.inr (Or.inl rfl) | exact Or.inr (Or.inr rfl)) (hg : Gl X f := by rfl)
    (hd1 : (xa == ("__debug__" : Str)) = false := by decide) (hcd : (xa == ("__classdict__" : Str)) = false := by decide) (hdb : (f == ("__debug__" : Str)) = false := by decide)
    (he : starEach (.Name xa pa :: es) X.env = (false, eval (.Name xa pa) X.env) :: starEach es X.env := by rfl) (hpl : (backTo pos (starEach es X.env)).any (·.1) = false := by rfl) :
    EvN X (.Call (.Name f p) (.Name xa pa :: es) [] pos) ρ Φ := by
  obtain ⟨fa, fd, ps, F, hm, hk, hb⟩ := Fd
  refine fun B F0 st vst σ H Q hl R0 kk => ⟨_, pe_callS F hr hg hm hk hb passE0 (pa_cons (pe_var hN hv hd1 hcd) (pa_u X es) he) hdb he hpl, ?_⟩
  obtain ⟨v0, _, _, hv0, _⟩ := R0.slot hl hi0
  refine ⟨v0, hv0, ha.frz B F0 st vst σ H _ hl R0 fun vs H1 hl1 R1 => ?_⟩
  rw [map_vv] at R1
  have R2 := rl_v ds R1
  have hl2 : vs.length = ds.length := by simpa using hl1
  obtain ⟨B', F', a, hv1, _, Rc, back⟩ := R2.calleeM hl2 hl hi ht
  rw [hv0] at hv1
  cases hv1
  refine ⟨B', F', .at_ a (.lst us) :: ds.map T.v, _, _, by simpa using hl2, by simpa [List.map_map, Function.comp_def] using Rc, hR a, fun r' ts' v H' e h => ?_, fun _ _ _ _ _ h _ _ => h.elim⟩
  obtain ⟨u', more, hp, rfl⟩ := e
  exact kk r' _ v H' (h2 r' u' hp) (back _ _ _ _ _ _ h)
/-- x = e, of e only something known -/
theorem s_setN {x : Str} (i : Nat) (g : Gd X) (he : EvN X e ρ Φ) (h : ∀ r ρ1, Φ r ρ1 → Z.nx (ρ1.set i (some r))) (hi : X.N[i]? = some x := by rfl) (hx : Loc X.env.scope x := by first | exact Or.inl rfl | exact Or.inr rfl) (hs : swapsWith e (some (.Name x pos')) pos.line X.env = pure false := by rfl)
    (hf : X.fn x = true ∨ X.env.scope.names.lookup x = some .local := by first | exact .inl rfl | exact .inr rfl) : S1 X (.Assign [.Name x pos'] e pos) ρ Z :=
  s1_of (ps_set g.nd hi hx (pe_u X e) hs (hf := hf)) fun B F0 σ H De Wx tk R m => he B F0 [] [] σ H _ rfl R fun r ρ1 v H1 hf R1 => m.nx _ _ H1 (h r ρ1 hf) (Rl.setS R1)
end
end Vl
end
section
set_option maxRecDepth 100000
namespace Vl
open PySem L2
def topS (i : Nat) : Stmt := PySem.Challenge.pw_wholestakes_k03_whole_letters_and_places.main.body.getD i (.Pass ⟨0, 0, 0, 0⟩)
abbrev st_is_integer : Stmt := topS 6
theorem sc_is_integer : FnScope ["thing"] ["thing"] (defScope st_is_integer) := ⟨rfl, rfl, rfl, by decide +kernel, rfl, by decide +kernel, by decide +kernel⟩
def bltN : List Str := ["isinstance", "int", "bool", "str", "tuple", "list", "dict", "len", "all", "any", "sum", "max", "min", "range", "sorted", "set", "abs", "enumerate"]
def R_is_integer (K : PySem.W.Frag) : Pr := fun ts Q _ => ∃ d, ts = [.v d] ∧ d.isOk K ∧ Q (.v (.bl (d.isInt && !d.isBl))) ts
section
variable {P : Program} {w : World} {K : PySem.W.Frag} {mg : Str → Option Value} {base : Heap}
def Bl (mg : Str → Option Value) : Prop := ∀ x ∈ bltN, mg x = none
theorem Bl.at {mg : Str → Option Value} (G : Bl mg) {x : Str} (h : bltN.contains x = true := by decide +kernel) : mg x = none := G x (List.contains_iff_mem.mp h)
theorem fn_is_integer {f : Addr} {fd : FuncData} (F : Fun K "is_integer" "is_integer" st_is_integer f fd) (hm : mg "is_integer" = some (.ref f)) (hb : Binds K fd ["thing"] []) (G : Bl mg) : Fn P w K mg base 1 "is_integer" (R_is_integer K) := by
  refine fn_v F sc_is_integer hm hb ?_ (by decide) ?_
  · rintro ts Qt Qx ⟨d, rfl, _⟩; exact ⟨[d], rfl, rfl⟩
  · rintro cdv A outer s H E ds Qt Qx hr ⟨d, e, ok, q⟩
    have g := gd_of sc_is_integer hr
    obtain rfl : ds = [d] := by
      match ds, e with
      | [x], e => simp at e; rw [e]
    refine s_cons (s_ret (ev_and (ev_isi (ev_var 0) (ev_bty G.at PyProof.Rows.boot_int) ok (kit_i ok) G.at) (fun _ => ev_one (ev_not (ev_isi (ev_var 0) (ev_bty G.at PyProof.Rows.boot_bool) ok (kit_b ok) G.at)))) ?_)
    exact q
end
end Vl
end
section
set_option maxRecDepth 100000
namespace Vl
open PySem L2
abbrev st_is_within : Stmt := topS 7
abbrev st_is_letter : Stmt := topS 8
abbrev st_is_rising : Stmt := topS 9
theorem sc_is_within : FnScope ["thing", "low", "high"] ["thing", "low", "high"] (defScope st_is_within) := ⟨rfl, rfl, rfl, by decide +kernel, rfl, by decide +kernel, by decide +kernel⟩
theorem sc_is_letter : FnScope ["thing"] ["thing"] (defScope st_is_letter) := ⟨rfl, rfl, rfl, by decide +kernel, rfl, by decide +kernel, by decide +kernel⟩
theorem sc_is_rising : FnScope ["items", "at"] ["items"] (defScope st_is_rising) := ⟨rfl, rfl, rfl, by decide +kernel, rfl, by decide +kernel, by decide +kernel⟩
def R_is_within : Pr := fun ts Q _ => ∃ a lo hi : Int, ts = [.v (.int a), .v (.int lo), .v (.int hi)] ∧ Q (.v (.bl (decide (lo ≤ a) && decide (a ≤ hi)))) ts
def R_is_letter : Pr := fun ts Q _ => ∃ c : Nat, ts = [.v (.str ⟨#[c]⟩)] ∧ Q (.v (.bl (decide (97 ≤ c ∧ c ≤ 122)))) ts
section
variable {P : Program} {w : World} {K : PySem.W.Frag} {mg : Str → Option Value} {base : Heap}
theorem fn_is_within {f : Addr} {fd : FuncData} (F : Fun K "is_within" "is_within" st_is_within f fd) (hm : mg "is_within" = some (.ref f)) (hb : Binds K fd ["thing", "low", "high"] []) (Fi : Fn P w K mg base 1 "is_integer" (R_is_integer K)) : Fn P w K mg base 2 "is_within" R_is_within := by
  refine fn_v F sc_is_within hm hb ?_ (by decide) ?_
  · rintro ts Qt Qx ⟨a, lo, hi, rfl, _⟩; exact ⟨[.int a, .int lo, .int hi], rfl, rfl⟩
  · rintro cdv A outer s H E ds Qt Qx hr ⟨a, lo, hi, e, q⟩
    have g := gd_of sc_is_within hr
    obtain rfl : ds = [.int a, .int lo, .int hi] := v_inj e
    refine s_cons (s_ret (ev_and (ev_callV [.int a] Fi (hr.mono (by decide)) (eva_cons (ev_var 0) eva_nil) ⟨_, rfl, trivial, rfl⟩) (fun _ => ev_one (ev_chain (ev_var 1) (ev_var 0) (fun _ => ev_var 2) cv_le (fun _ => cv_le)))) ?_)
    exact q
theorem fn_is_letter {f : Addr} {fd : FuncData} (F : Fun K "is_letter" "is_letter" st_is_letter f fd) (hm : mg "is_letter" = some (.ref f)) (hb : Binds K fd ["thing"] []) (G : Bl mg) : Fn P w K mg base 1 "is_letter" R_is_letter := by
  refine fn_v F sc_is_letter hm hb ?_ (by decide) ?_
  · rintro ts Qt Qx ⟨c, rfl, _⟩; exact ⟨[.str ⟨#[c]⟩], rfl, rfl⟩
  · rintro cdv A outer s H E ds Qt Qx hr ⟨c, e, q⟩
    have g := gd_of sc_is_letter hr
    obtain rfl : ds = [.str ⟨#[c]⟩] := v_inj e
    refine s_cons (s_ret (ev_and (ev_isi (ev_var 0) (ev_bty G.at PyProof.Rows.boot_str) (d := .str ⟨#[c]⟩) trivial (kit_s (d := .str ⟨#[c]⟩) trivial) G.at) (fun _ => ev_and (ev_cmpv (ev_len (eva_cons (ev_var 0) eva_nil) (n := 1) (by rw [T.d_v]; rfl) (by decide) G.at) ev_int cv_eqI) (fun _ => ev_one (ev_chain ev_str (ev_var 0) (fun _ => ev_str) cv_leS (fun _ => cv_leS))))) ?_)
    refine Eq.mp (congrArg (fun b => Qt (.v (.bl b)) ([.str ⟨#[c]⟩].map T.v)) ?_) q
    have h1 : ([c] < [97]) ↔ c < 97 := by simp [List.cons_lt_cons_iff]
    have h2 : ([122] < [c]) ↔ 122 < c := by simp [List.cons_lt_cons_iff]
    show decide (97 ≤ c ∧ c ≤ 122) = (true && (decide ((1 : Int) = 1) && ((!decide ([c] < [97])) && !decide ([122] < [c]))))
    by_cases a1 : 97 ≤ c <;> by_cases a2 : c ≤ 122 <;> simp [a1, a2, h1, h2] <;> omega
theorem at_nat {α : Type} {xs : List α} {i : Nat} {x : α} (h : xs[i]? = some x) : atI xs (i : Int) = some x := by
  have hl := (List.getElem?_eq_some_iff.mp h).1
  unfold atI ixN
  rw [if_pos (by omega), if_pos (by omega)]
  simpa using h
theorem cv_ltKb {X : Cx} {a b : List Key} {bo : Bool} (hu : X.A.units + 64 < cLine) (h : likeK a b = true) (e : ltK a b = bo) : CmpV X .Lt (tK a) (tK b) bo := e ▸ cv_ltK hu h
/-- a row of such tuples that rises: every item before the next -/
def Rises : List (List Key) → Prop
  | a :: b :: r => ltK a b = true ∧ Rises (b :: r)
  | _ => True
def R_is_rising : Pr := fun ts Q _ => ∃ ks : List (List Key), ts = [.v (.tup (ks.map tK))] ∧ ks.length ≤ 60 ∧ 1 ≤ ks.length ∧ (∀ i a b, ks[i]? = some a → ks[i + 1]? = some b → likeK a b = true ∧ ltK a b = true) ∧ Q (.v (.bl true)) ts
theorem fn_is_rising {f : Addr} {fd : FuncData} (F : Fun K "is_rising" "is_rising" st_is_rising f fd) (hm : mg "is_rising" = some (.ref f)) (hb : Binds K fd ["items"] []) (G : Bl mg) : Fn P w K mg base 1 "is_rising" R_is_rising := by
  refine fn_v F sc_is_rising hm hb ?_ (by decide) ?_
  · rintro ts Qt Qx ⟨ks, rfl, _⟩; exact ⟨[.tup (ks.map tK)], rfl, rfl⟩
  · rintro cdv A outer s_0 H_0 E ds Qt Qx hr ⟨ks, e, hz, h1, hs, q⟩
    have g := gd_of sc_is_rising hr
    obtain rfl : ds = [.tup (ks.map tK)] := v_inj e
    have hlen : (D.tup (ks.map tK)).len = some ks.length := by simp [D.len]
    refine s_cons (s_ret (ρ1 := [some (.v (.tup (ks.map tK))), none]) (ev_all (ns := List.replicate (ks.length - 1) true) (r := .lst ((List.replicate (ks.length - 1) (D.bl true)).map T.v)) (eva_cons ?_ eva_nil) (by rw [lst_vd, List.map_replicate]) g.calm G.at) ?_)
    · refine ev_lc (n := ((ks.length : Int) - 1).toNat) [("at", 1)] (fun i ρ acc => ρ = [some (.v (.tup (ks.map tK))), none] ∧ acc = List.replicate i (.v (.bl true))) g
        (it_range1 (eva_cons (ev_sub (ev_len (eva_cons (ev_var 0) eva_nil) (by rw [T.d_v]; exact hlen) (by omega) G.at) ev_int) eva_nil) (by omega) (by omega) G.at) ?_ ?_ ⟨rfl, rfl⟩ ?_ ?_ ?_
      · show BlkOk ["items", "at"] (defScope st_is_rising) _ [("at", 1)]
        exact ⟨rfl, by decide +kernel, by decide +kernel, by decide +kernel, by decide +kernel⟩
      · intro j hj t h
        simp at hj
        subst hj
        simp at h
      · rintro i ρ acc hi ⟨rfl, rfl⟩
        have hi2 : i + 1 < ks.length := by omega
        obtain ⟨hl, hlt⟩ := hs i ks[i] ks[i + 1] (List.getElem?_eq_getElem (by omega)) (List.getElem?_eq_getElem hi2)
        refine ⟨[some (.v (.tup (ks.map tK))), some (.v (.int (i : Int)))], true, [some (.v (.tup (ks.map tK))), some (.v (.int (i : Int)))], fun s H C cl fp => tgk_name 1 g.nd, fun s H C cl fp => ts_nil, fun _ => ⟨.v (.bl true), [some (.v (.tup (ks.map tK))), some (.v (.int (i : Int)))], fun s H C cl fp => ?_, rfl, ?_⟩, fun e => by cases e⟩
        · have a1 : atI (ks.map tK) (i : Int) = some (tK ks[i]) := at_nat (by rw [List.getElem?_map, List.getElem?_eq_getElem (by omega : i < ks.length)]; rfl)
          have a2 : atI (ks.map tK) ((i : Int) + 1) = some (tK ks[i + 1]) := at_nat (i := i + 1) (by rw [List.getElem?_map, List.getElem?_eq_getElem hi2]; rfl)
          refine ev_cmpv (bo := true) (x := tK ks[i]) (y := tK ks[i + 1]) (ev_ixT (ev_var 0) (ev_var 1) a1) (ev_ixT (ev_var 0) (ev_add (ev_var 1) ev_int) a2) ?_
          exact cv_ltKb g.hu hl hlt
        · rw [List.replicate_succ']
      · rintro ρ acc ⟨rfl, rfl⟩
        exact ⟨by rw [List.map_replicate]; congr 1; omega, rfl⟩
      · omega
    · simpa using q
end
end Vl
end
section
set_option maxRecDepth 100000
namespace Vl
open PySem L2
abbrev st_is_place : Stmt := topS 11
abbrev st_check_place : Stmt := topS 12
abbrev st_wrong_part : Stmt := topS 18
abbrev st_are_arrows : Stmt := topS 19
abbrev st_is_arrow : Stmt := topS 20
abbrev Arw := Int × Str × Int × Int
def aK (a : Arw) : List Key := [.inl a.1, .inr a.2.1, .inl a.2.2.1, .inl a.2.2.2]
structure ArwOk (n : Int) (a : Arw) : Prop where
  s0 : 0 ≤ a.1
  s1 : a.1 < n
  l : ∃ c : Nat, a.2.1 = ⟨#[c]⟩ ∧ 97 ≤ c ∧ c ≤ 122
  p0 : 0 ≤ a.2.2.1
  p1 : a.2.2.1 ≤ 9
  t0 : 0 ≤ a.2.2.2
  t1 : a.2.2.2 < n
/-- a track of n places -/
structure Good (n : Int) (as : List Arw) : Prop where
  n1 : 1 ≤ n
  n2 : n ≤ 12
  l1 : 1 ≤ as.length
  l2 : as.length ≤ 60
  ok : ∀ a ∈ as, ArwOk n a
  up : (as.map aK).Pairwise fun a b => ltK a b = true
  tw : (as.map fun a => (a.1, a.2.1)).Nodup
  all : ∀ i : Int, 0 ≤ i → i < n → ∃ a ∈ as, a.1 = i
structure Mc (mg : Str → Option Value) : Prop where
  places : ∃ t, mg "MOST_PLACES" = some (.int 12 t)
  arrows : ∃ t, mg "MOST_ARROWS" = some (.int 60 t)
  pay : ∃ t, mg "MOST_PAY" = some (.int 9 t)
theorem sc_is_arrow : FnScope ["places", "thing", "start", "letter", "pay", "to"] ["places", "thing"] (defScope st_is_arrow) := ⟨rfl, rfl, rfl, by decide +kernel, rfl, by decide +kernel, by decide +kernel⟩
theorem sc_are_arrows : FnScope ["places", "thing", "found"] ["places", "thing"] (defScope st_are_arrows) := ⟨rfl, rfl, rfl, by decide +kernel, rfl, by decide +kernel, by decide +kernel⟩
theorem sc_wrong_part : FnScope ["places", "arrows", "found"] ["places", "arrows"] (defScope st_wrong_part) := ⟨rfl, rfl, rfl, by decide +kernel, rfl, by decide +kernel, by decide +kernel⟩
def R_is_arrow : Pr := fun ts Q _ => ∃ n a, ts = [.v (.int n), .v (tK (aK a))] ∧ ArwOk n a ∧ Q (.v (.bl true)) ts
def R_are_arrows : Pr := fun ts Q _ => ∃ n as, ts = [.v (.int n), .v (.tup (as.map fun a => tK (aK a)))] ∧ Good n as ∧ Q (.v (.bl true)) ts
def R_wrong_part : Pr := fun ts Q _ => ∃ n as, ts = [.v (.int n), .v (.tup (as.map fun a => tK (aK a)))] ∧ Good n as ∧ Q (.v .non) ts
theorem cv_ltb {X : Cx} {a b : Int} {bo : Bool} (h : bo = decide (a < b)) : CmpV X .Lt (.int a) (.int b) bo := h ▸ cv_lt
theorem cv_leb {X : Cx} {a b : Int} {bo : Bool} (h : bo = decide (a ≤ b)) : CmpV X .LtE (.int a) (.int b) bo := h ▸ cv_le
theorem ev_allb {X : Cx} {e : Expr} {ρ ρ1 : Rho} {r : T} {p pos : Pos} {bo : Bool} (ns : List Bool) (hb : (ns.all fun b => b) = bo) (ha : EvA X [e] ρ [r] ρ1) (hr : r.d = .lst (ns.map D.bl)) (hc : X.calm = true) (hm : X.mg "all" = none) (hg : Gl X "all" := by rfl) (he : starEach [e] X.env = (false, eval e X.env) :: starEach [] X.env := by rfl) : Ev X (.Call (.Name "all" p) [e] [] pos) ρ (.v (.bl bo)) ρ1 := hb ▸ ev_all ha hr hc hm hg he
theorem ev_mI {X : Cx} {ρ : Rho} {x : Str} {n : Int} {p : Pos} (h : ∃ t, X.mg x = some (.int n t)) (hg : Gl X x := by rfl) (hdb : (x == ("__debug__" : Str)) = false := by decide) : Ev X (.Name x p) ρ (.v (.int n)) ρ := by
  obtain ⟨t, h⟩ := h
  exact ev_glob (v := .int n) hg h ⟨t, rfl⟩ (fun F => .int n) hdb
theorem wit {lo a hi : Int} (h1 : lo ≤ a) (h2 : a ≤ hi) : T.v (.bl (decide (lo ≤ a) && decide (a ≤ hi))) = T.v (.bl true) := by rw [decide_eq_true h1, decide_eq_true h2]; rfl
section
variable {P : Program} {w : World} {K : PySem.W.Frag} {mg : Str → Option Value} {base : Heap}
theorem fn_is_arrow {f : Addr} {fd : FuncData} (F : Fun K "is_arrow" "is_arrow" st_is_arrow f fd) (hm : mg "is_arrow" = some (.ref f)) (hb : Binds K fd ["places", "thing"] []) (G : Bl mg) (M : Mc mg) (Fw : Fn P w K mg base 2 "is_within" R_is_within) (Fl : Fn P w K mg base 1 "is_letter" R_is_letter) : Fn P w K mg base 3 "is_arrow" R_is_arrow := by
  refine fn_v F sc_is_arrow hm hb ?_ (by decide) ?_
  · rintro ts Qt Qx ⟨n, a, rfl, _⟩; exact ⟨[.int n, tK (aK a)], rfl, rfl⟩
  · rintro cdv A outer s_0 H_0 E ds Qt Qx hr ⟨n, ⟨s, l, p, t⟩, e, ok, q⟩
    have g := gd_of sc_is_arrow hr
    obtain ⟨s0, s1, ⟨c, rfl, c1, c2⟩, p0, p1, t0, t1⟩ := ok
    dsimp only at s0 s1 p0 p1 t0 t1
    obtain rfl : ds = [.int n, .tup [.int s, .str ⟨#[c]⟩, .int p, .int t]] := v_inj e
    refine s_cons (s_if (bo := false) (tv_w (tw_or (bo := false) (bo' := false) (tv_not (tv_val (bo := true) (ev_isi (d := .tup [.int s, .str ⟨#[c]⟩, .int p, .int t]) (ev_var 1) (ev_bty G.at PyProof.Rows.boot_tuple) trivial (kit_t (d := .tup [.int s, .str ⟨#[c]⟩, .int p, .int t]) trivial) G.at))) (fun _ => tw_or1 (tv_cmpv (bo := false) (ev_len (n := 4) (eva_cons (ev_var 1) eva_nil) (by rw [T.d_v]; rfl) (by decide) G.at) ev_int cv_neI)))) (fun e => by cases e) fun _ => s_nil ?_)
    refine s_cons (s_asg (ev_var 1) (tg_tup g (tgs_cons (tg_name 2 g) (tgs_cons (tg_name 3 g) (tgs_cons (tg_name 4 g) (tgs_cons (tg_name 5 g) tgs_nil)))) rfl) ?_)
    refine s_cons (s_if (bo := false) (tv_w (tw_or (bo := false) (bo' := false) (tv_not (tv_val (bo := true) (ev_callV [.int s, .int 0, .int (n - 1)] Fw (hr.mono (by decide)) (eva_cons (ev_var 2) (eva_cons ev_int (eva_cons (ev_sub (ev_var 0) ev_int) eva_nil))) ⟨_, _, _, rfl, wit s0 (by omega)⟩))) (fun _ => tw_or1 (tv_not (tv_val (bo := true) (ev_callV [.int t, .int 0, .int (n - 1)] Fw (hr.mono (by decide)) (eva_cons (ev_var 5) (eva_cons ev_int (eva_cons (ev_sub (ev_var 0) ev_int) eva_nil))) ⟨_, _, _, rfl, wit t0 (by omega)⟩)))))) (fun e => by cases e) fun _ => s_nil ?_)
    refine s_cons (s_ret (ev_and (c := true) (d := true) (ev_callV [.str ⟨#[c]⟩] Fl (hr.mono (by decide)) (eva_cons (ev_var 3) eva_nil) ⟨_, rfl, ?_⟩) (fun _ => ev_one (ev_callV [.int p, .int 0, .int 9] Fw (hr.mono (by decide)) (eva_cons (ev_var 4) (eva_cons ev_int (eva_cons (ev_mI M.pay) eva_nil))) ⟨_, _, _, rfl, wit p0 p1⟩))) ?_)
    · rw [decide_eq_true (show 97 ≤ c ∧ c ≤ 122 from ⟨c1, c2⟩)]
    · exact q
theorem likeK_aK : ∀ a b : Arw, likeK (aK a) (aK b) = true := fun a b => rfl
theorem ltK_tr {a b c : List Key} (h1 : ltK a b = true) (h2 : ltK b c = true) : ltK a c = true := PyProof.Rows.lex_trans _ _ _ h1 h2
theorem fn_are_arrows {f : Addr} {fd : FuncData} (F : Fun K "are_arrows" "are_arrows" st_are_arrows f fd) (hm : mg "are_arrows" = some (.ref f)) (hb : Binds K fd ["places", "thing"] []) (G : Bl mg) (M : Mc mg) (Fa : Fn P w K mg base 3 "is_arrow" R_is_arrow) (Fr : Fn P w K mg base 1 "is_rising" R_is_rising) : Fn P w K mg base 4 "are_arrows" R_are_arrows := by
  refine fn_v F sc_are_arrows hm hb ?_ (by decide) ?_
  · rintro ts Qt Qx ⟨n, as, rfl, _⟩; exact ⟨[.int n, .tup (as.map fun a => tK (aK a))], rfl, rfl⟩
  · rintro cdv A outer s_0 H_0 E ds Qt Qx hr ⟨n, as, e, ok, q⟩
    have g := gd_of sc_are_arrows hr
    obtain rfl : ds = [.int n, .tup (as.map fun a => tK (aK a))] := v_inj e
    have hl1 := ok.l1
    have hl2 := ok.l2
    have hlen : (T.v (.tup (as.map fun a => tK (aK a)))).d.len = some as.length := by rw [T.d_v]; simp [D.len]
    refine s_cons (s_if (bo := false) (tv_w (tw_or (bo := false) (bo' := false) (tv_not (tv_val (bo := true) (ev_isi (d := .tup (as.map fun a => tK (aK a))) (ev_var 1) (ev_bty G.at PyProof.Rows.boot_tuple) trivial (kit_t (d := .tup (as.map fun a => tK (aK a))) trivial) G.at))) (fun _ => tw_or1 (tv_not (tv_chain (bo := true) (bo' := true) (x := .int 1) (y := .int as.length) (z := .int 60) ev_int (ev_len (n := as.length) (eva_cons (ev_var 1) eva_nil) hlen (by omega) G.at) (fun _ => ev_mI M.arrows) (cv_leb (by simp; omega)) (fun _ => cv_leb (by simp; omega))))))) (fun e => by cases e) fun _ => s_nil ?_)
    refine s_cons (s_ret (ev_and (c := true) (d := true) (ρ1 := [some (.v (.int n)), some (.v (.tup (as.map fun a => tK (aK a)))), none]) (ev_allb (List.replicate as.length true) (by simp) (r := .lst ((List.replicate as.length (D.bl true)).map T.v)) (eva_cons ?_ eva_nil) (by rw [lst_vd, List.map_replicate]) g.calm G.at) (fun _ => ev_one (ev_callV [.tup (as.map fun a => tK (aK a))] Fr (hr.mono (by decide)) (eva_cons (ev_var 1) eva_nil) ⟨as.map aK, by rw [List.map_map]; rfl, by simpa using hl2, by simpa using hl1, ?_, rfl⟩))) ?_)
    · refine ev_lc (n := as.length) [("found", 2)] (fun i ρ acc => ρ = [some (.v (.int n)), some (.v (.tup (as.map fun a => tK (aK a)))), none] ∧ acc = List.replicate i (.v (.bl true))) g
        (Iter.to (it_tup (ev_var 1)) (item' := fun i => tK (aK (as.getD i default))) (by simp) (fun i hi => by simp [List.getD_eq_getElem?_getD, hi])) ?_ ?_ ⟨rfl, rfl⟩ ?_ ?_ ?_
      · show BlkOk ["places", "thing", "found"] (defScope st_are_arrows) _ [("found", 2)]
        exact ⟨rfl, by decide +kernel, by decide +kernel, by decide +kernel, by decide +kernel⟩
      · intro j hj t h
        simp at hj
        subst hj
        simp at h
      · rintro i ρ acc hi ⟨rfl, rfl⟩
        refine ⟨[some (.v (.int n)), some (.v (.tup (as.map fun a => tK (aK a)))), some (.v (tK (aK (as.getD i default))))], true, [some (.v (.int n)), some (.v (.tup (as.map fun a => tK (aK a)))), some (.v (tK (aK (as.getD i default))))], fun s H C cl fp => tgk_name 2 g.nd, fun s H C cl fp => ts_nil, fun _ => ⟨.v (.bl true), [some (.v (.int n)), some (.v (.tup (as.map fun a => tK (aK a)))), some (.v (tK (aK (as.getD i default))))], fun s H C cl fp => ?_, rfl, ?_⟩, fun e => by cases e⟩
        · exact ev_callV [.int n, tK (aK (as.getD i default))] Fa hr (eva_cons (ev_var 0) (eva_cons (ev_var 2) eva_nil)) ⟨n, as.getD i default, rfl, ok.ok _ (by simp [List.getD_eq_getElem?_getD, hi]), rfl⟩
        · rw [List.replicate_succ']
      · rintro ρ acc ⟨rfl, rfl⟩
        exact ⟨by rw [List.map_replicate], rfl⟩
      · omega
    · intro i a b h1 h2
      rw [List.getElem?_map] at h1 h2
      obtain ⟨hi1, rfl⟩ : ∃ h : i < as.length, a = aK as[i] := by
        by_cases h : i < as.length
        · rw [List.getElem?_eq_getElem h] at h1; exact ⟨h, by simpa using h1.symm⟩
        · rw [List.getElem?_eq_none_iff.mpr (by omega)] at h1; simp at h1
      obtain ⟨hi2, rfl⟩ : ∃ h : i + 1 < as.length, b = aK as[i + 1] := by
        by_cases h : i + 1 < as.length
        · rw [List.getElem?_eq_getElem h] at h2; exact ⟨h, by simpa using h2.symm⟩
        · rw [List.getElem?_eq_none_iff.mpr (by omega)] at h2; simp at h2
      refine ⟨likeK_aK _ _, ?_⟩
      have := List.pairwise_iff_getElem.mp ok.up i (i + 1) (by simpa using hi1) (by simpa using hi2) (by omega)
      simpa using this
    · exact q
end
end Vl
end
section
set_option maxRecDepth 100000
namespace Vl
open PySem L2
theorem len_same {α : Type} {L M : List α} (h1 : L.Nodup) (h2 : M.Nodup) (h : ∀ k, k ∈ L ↔ k ∈ M) : L.length = M.length := ((List.perm_ext_iff_of_nodup h1 h2).2 h).length_eq
section
variable {P : Program} {w : World} {K : PySem.W.Frag} {mg : Str → Option Value} {base : Heap}
theorem fn_wrong_part {f : Addr} {fd : FuncData} (F : Fun K "wrong_part" "wrong_part" st_wrong_part f fd) (hm : mg "wrong_part" = some (.ref f)) (hb : Binds K fd ["places", "arrows"] []) (G : Bl mg) (M : Mc mg) (Fw : Fn P w K mg base 2 "is_within" R_is_within) (Fa : Fn P w K mg base 4 "are_arrows" R_are_arrows) : Fn P w K mg base 5 "wrong_part" R_wrong_part := by
  refine fn_v F sc_wrong_part hm hb ?_ (by decide) ?_
  · rintro ts Qt Qx ⟨n, as, rfl, _⟩; exact ⟨[.int n, .tup (as.map fun a => tK (aK a))], rfl, rfl⟩
  · rintro cdv A outer s_0 H_0 E ds Qt Qx hr ⟨n, as, e, ok, q⟩
    have g := gd_of sc_wrong_part hr
    obtain rfl : ds = [.int n, .tup (as.map fun a => tK (aK a))] := v_inj e
    have hl1 := ok.l1
    have hl2 := ok.l2
    have n1 := ok.n1
    have n2 := ok.n2
    have hlen : (T.v (.tup (as.map fun a => tK (aK a)))).d.len = some as.length := by rw [T.d_v]; simp [D.len]
    refine s_cons (s_if (bo := false) (tv_not (tv_val (bo := true) (ev_callV [.int n, .int 1, .int 12] Fw (hr.mono (by decide)) (eva_cons (ev_var 0) (eva_cons ev_int (eva_cons (ev_mI M.places) eva_nil))) ⟨_, _, _, rfl, wit n1 n2⟩))) (fun e => by cases e) fun _ => s_nil ?_)
    refine s_cons (s_if (bo := false) (tv_not (tv_val (bo := true) (ev_callV [.int n, .tup (as.map fun a => tK (aK a))] Fa (hr.mono (by decide)) (eva_cons (ev_var 0) (eva_cons (ev_var 1) eva_nil)) ⟨_, _, rfl, ok, rfl⟩))) (fun e => by cases e) fun _ => s_nil ?_)
    refine s_cons (s_if (bo := false) (ρ1 := [some (.v (.int n)), some (.v (.tup (as.map fun a => tK (aK a)))), none]) (tv_cmpv (x := .int as.length) (y := .int as.length) ?_ (ev_len (n := as.length) (eva_cons (ev_var 1) eva_nil) hlen (by omega) G.at) (cv_ltb (by simp))) (fun e => by cases e) fun _ => s_nil ?_)
    · refine ev_lenT (n := as.length) (ρ1 := [some (.v (.int n)), some (.v (.tup (as.map fun a => tK (aK a)))), none]) [("found", 2)] (fun i => [.inl (as.getD i default).1, .inr (as.getD i default).2.1]) as.length (fun i ρ => ρ = [some (.v (.int n)), some (.v (.tup (as.map fun a => tK (aK a)))), none]) g G.at
        (Iter.to (it_tup (ev_var 1)) (item' := fun i => tK (aK (as.getD i default))) (by simp) (fun i hi => by simp [List.getD_eq_getElem?_getD, hi])) ?_ (by omega) ?_ rfl ?_ (fun _ h => h) ?_
      · show BlkOk ["places", "arrows", "found"] (defScope st_wrong_part) _ [("found", 2)]
        exact ⟨rfl, by decide +kernel, by decide +kernel, by decide +kernel, by decide +kernel⟩
      · intro j hj t h
        simp at hj
        subst hj
        simp at h
      · rintro i ρ hi rfl
        refine ⟨[some (.v (.int n)), some (.v (.tup (as.map fun a => tK (aK a)))), some (.v (tK (aK (as.getD i default))))], [some (.v (.int n)), some (.v (.tup (as.map fun a => tK (aK a)))), some (.v (tK (aK (as.getD i default))))], fun s H C cl fp => tgk_name 2 g.nd, fun s H C cl fp => ?_, rfl⟩
        exact ev_slT (ds := (aK (as.getD i default)).map kD) (l := none) (u := some 2) (ev_var 2) evo_none (evo_some ev_int)
      · intro L nd hL
        have : L.length = (as.map fun a => ([.inl a.1, .inr a.2.1] : List Key)).length := by
          refine len_same nd ?_ fun k => ?_
          · have := ok.tw
            rw [List.Nodup, List.pairwise_map] at this ⊢
            refine this.imp fun {a b} h e => h ?_
            simp only [List.cons.injEq, Sum.inl.injEq, Sum.inr.injEq, and_true] at e
            exact Prod.ext e.1 e.2
          · rw [hL, List.mem_map]
            constructor
            · rintro ⟨i, hi, e⟩
              exact ⟨as.getD i default, by simp [List.getD_eq_getElem?_getD, hi], e⟩
            · rintro ⟨a, ha, e⟩
              obtain ⟨i, hi, rfl⟩ := List.getElem_of_mem ha
              exact ⟨i, hi, by simp [List.getD_eq_getElem?_getD, hi]; exact e⟩
        rw [this, List.length_map]
    refine s_cons (s_if (bo := false) (ρ1 := [some (.v (.int n)), some (.v (.tup (as.map fun a => tK (aK a)))), none]) (tv_cmpv (x := .int n) (y := .int n) ?_ (ev_var 0) (cv_ltb (by simp))) (fun e => by cases e) fun _ => s_nil ?_)
    · refine ev_lenI (n := as.length) (ρ1 := [some (.v (.int n)), some (.v (.tup (as.map fun a => tK (aK a)))), none]) [("found", 2)] (fun i => (as.getD i default).1) n (fun i ρ => ρ = [some (.v (.int n)), some (.v (.tup (as.map fun a => tK (aK a)))), none]) g G.at
        (Iter.to (it_tup (ev_var 1)) (item' := fun i => tK (aK (as.getD i default))) (by simp) (fun i hi => by simp [List.getD_eq_getElem?_getD, hi])) ?_ (by omega) ?_ rfl ?_ (fun _ h => h) ?_
      · show BlkOk ["places", "arrows", "found"] (defScope st_wrong_part) _ [("found", 2)]
        exact ⟨rfl, by decide +kernel, by decide +kernel, by decide +kernel, by decide +kernel⟩
      · intro j hj t h
        simp at hj
        subst hj
        simp at h
      · rintro i ρ hi rfl
        refine ⟨[some (.v (.int n)), some (.v (.tup (as.map fun a => tK (aK a)))), some (.v (tK (aK (as.getD i default))))], [some (.v (.int n)), some (.v (.tup (as.map fun a => tK (aK a)))), some (.v (tK (aK (as.getD i default))))], fun s H C cl fp => tgk_name 2 g.nd, fun s H C cl fp => ?_, rfl⟩
        exact ev_ixT (ds := (aK (as.getD i default)).map kD) (n := 0) (ev_var 2) ev_int rfl
      · intro L nd hL
        have : L.length = ((List.range n.toNat).map fun i : Nat => (i : Int)).length := by
          refine len_same nd ?_ fun k => ?_
          · rw [List.Nodup, List.pairwise_map]; exact List.nodup_range.imp fun {a b} h e => h (by omega)
          · rw [hL, List.mem_map]
            constructor
            · rintro ⟨i, hi, e⟩
              have := ok.ok (as.getD i default) (by simp [List.getD_eq_getElem?_getD, hi])
              have a0 := this.s0
              have a1 := this.s1
              rw [e] at a0 a1
              exact ⟨k.toNat, by simp; omega, by omega⟩
            · rintro ⟨i, hi, rfl⟩
              simp at hi
              obtain ⟨a, ha, e⟩ := ok.all i (by omega) (by omega)
              obtain ⟨j, hj, rfl⟩ := List.getElem_of_mem ha
              exact ⟨j, hj, by simp [List.getD_eq_getElem?_getD, hj]; exact e⟩
        rw [this]
        simp
        omega
    exact s_cons (s_ret ev_non q)
end
end Vl
end
section
set_option maxRecDepth 100000
namespace Vl
open PySem L2
abbrev st_track_init : Stmt := inClass (topS 17) 0
theorem sc_track_init : FnScope ["self", "places", "arrows", "wrong"] ["self", "places", "arrows"] (defScope st_track_init) := ⟨rfl, rfl, rfl, by decide +kernel, rfl, by decide +kernel, by decide +kernel⟩
def asD (as : List Arw) : D := .tup (as.map fun a => tK (aK a))
/-- a track -/
def trT (C : Addr) (n : Int) (as : List Arw) : T := .obj C [("places", .v (.int n)), ("arrows", .v (asD as))]
def trD (C : Addr) (n : Int) (as : List Arw) : D := .obj C [("places", .int n), ("arrows", asD as)]
theorem trT_d (C : Addr) (n : Int) (as : List Arw) : (trT C n as).d = trD C n as := by simp [trT, trD, T.d_obj, T.d_v]
structure Tc (K : PySem.W.Frag) (C : Addr) : Prop where
  cls : Cls K C
  np : NoAttr K C "places"
  na : NoAttr K C "arrows"
def R_track (C : Addr) : Pr := fun ts Q _ => ∃ q n as, ts = [.at_ q (.obj C []), .v (.int n), .v (asD as)] ∧ Good n as ∧ Q (.v .non) [.at_ q (trT C n as), .v (.int n), .v (asD as)]
section
variable {P : Program} {w : World} {K : PySem.W.Frag} {mg : Str → Option Value} {base : Heap}
theorem cn_track {f C : Addr} {fd : FuncData} (F : Fun K "__init__" "Track.__init__" st_track_init f fd) (Mm : Mk K C f) (hC : mg "Track" = some (.ref C)) (hb : Binds K fd ["self", "places", "arrows"] []) (T0 : Tc K C) (Fp : Fn P w K mg base 5 "wrong_part" R_wrong_part) : Cn P w K mg base 6 "Track" C (R_track C) := by
  refine ⟨f, fd, _, Mm, fnok_m F sc_track_init ?_ (by decide) ?_, hC, hb⟩
  · rintro ts Qt Qx ⟨q, n, as, rfl, _⟩; exact ⟨q, _, [.int n, asD as], rfl, rfl⟩
  · rintro cdv A outer s_0 H_0 E a u ds Qt Qx hr ⟨q, n, as, e, ok, h⟩
    have g := gd_of sc_track_init hr
    rw [List.cons.injEq, T.at_.injEq] at e
    obtain ⟨⟨rfl, rfl⟩, e⟩ := e
    obtain rfl : ds = [.int n, asD as] := v_inj e
    refine s_cons (s_set 3 g (ev_callV [.int n, asD as] Fp (hr.mono (by decide)) (eva_cons (ev_var 1) (eva_cons (ev_var 2) eva_nil)) ⟨_, _, rfl, ok, rfl⟩) ?_)
    refine s_cons (s_if (bo := false) (tv_notN (d := .non) (ev_var 3)) (fun e => by cases e) fun _ => s_nil ?_)
    refine s_cons (s_fld 0 (ev_var 1) rfl (.inr ⟨_, rfl⟩) T0.cls T0.np (by decide) ?_)
    refine s_cons (s_fld 0 (ev_var 2) rfl (.inr ⟨_, rfl⟩) T0.cls T0.na (by simp [fput]) ?_)
    refine s_nil ⟨_, rfl, ?_⟩
    have e1 : fput "arrows" (T.v (asD as)) (fput "places" (T.v (.int n)) []) = ([("places", T.v (.int n)), ("arrows", T.v (asD as))] : List (Str × T)) := by
      have : ¬ (("places" : Str) = "arrows") := by decide +kernel
      simp [fput, this]
    show Qt _ (.at_ a (.obj C (fput "arrows" (T.v (asD as)) (fput "places" (T.v (.int n)) []))) :: _)
    rw [e1]
    exact h
end
end Vl
end
section
set_option maxRecDepth 100000
namespace Vl
open PySem L2
abbrev st_ways_of : Stmt := topS 21
abbrev st_letters : Stmt := topS 22
abbrev st_arrow : Stmt := topS 23
def stepsOf (as : List Arw) (i : Int) : List Arw := as.filter fun a => a.1 == i
def wayT (as : List Arw) (i : Int) : List (Key × T) := (stepsOf as i).map fun a => (.inr a.2.1, .v (.tup [.int a.2.2.1, .int a.2.2.2]))
def wayD (as : List Arw) (i : Int) : List (Key × D) := (stepsOf as i).map fun a => (.inr a.2.1, .tup [.int a.2.2.1, .int a.2.2.2])
def waysT (n : Int) (as : List Arw) : List T := (List.range n.toNat).map fun i : Nat => .dic (wayT as i)
def waysD (n : Int) (as : List Arw) : List D := (List.range n.toNat).map fun i : Nat => .dic (wayD as i)
theorem waysT_d (n : Int) (as : List Arw) : (T.lst (waysT n as)).d = .lst (waysD n as) := by
  rw [T.d_lst, waysT, waysD, List.map_map]
  congr 1
  refine List.map_congr_left fun i _ => ?_
  simp [T.d_dic, wayT, wayD, List.map_map, Function.comp_def, T.d_v]
theorem kput_new {α : Type} {kvs : List (Key × α)} {k : Key} {x : α} (h : k ∉ kvs.map (·.1)) : kput kvs k x = kvs ++ [(k, x)] := by
  unfold kput
  cases e : kix kvs k with
  | none => rfl
  | some j => exact absurd (List.mem_of_getElem? (kix_some e).2) h
theorem set_map_range {α : Type} (n j : Nat) (f : Nat → α) (x : α) (hj : j < n) : ((List.range n).map f).set j x = (List.range n).map fun i => if i = j then x else f i := by
  refine List.ext_getElem (by simp) fun i h1 h2 => ?_
  simp only [List.getElem_set, List.getElem_map, List.getElem_range]
  by_cases e : j = i
  · rw [if_pos e, if_pos e.symm]
  · rw [if_neg e, if_neg (Ne.symm e)]
theorem sc_ways_of : FnScope ["track", "ways", "start", "letter", "pay", "to", "_"] ["track"] (defScope st_ways_of) := ⟨rfl, rfl, rfl, by decide +kernel, rfl, by decide +kernel, by decide +kernel⟩
def R_ways_of (C : Addr) : Pr := fun ts Q _ => ∃ n as, ts = [.v (trD C n as)] ∧ Good n as ∧ Q (.lst (waysT n as)) ts
section
variable {P : Program} {w : World} {K : PySem.W.Frag} {mg : Str → Option Value} {base : Heap}
theorem steps_take {as : List Arw} {j : Nat} (hj : j < as.length) (i : Int) : stepsOf (as.take (j + 1)) i = if as[j].1 = i then stepsOf (as.take j) i ++ [as[j]] else stepsOf (as.take j) i := by
  unfold stepsOf
  rw [List.take_succ_eq_append_getElem hj, List.filter_append]
  by_cases e : as[j].1 = i
  · rw [if_pos e]; simp [e]
  · rw [if_neg e]; simp [e]
theorem fn_ways_of {f C : Addr} {fd : FuncData} (F : Fun K "ways_of" "ways_of" st_ways_of f fd) (hm : mg "ways_of" = some (.ref f)) (hb : Binds K fd ["track"] []) (G : Bl mg) (T0 : Tc K C) : Fn P w K mg base 1 "ways_of" (R_ways_of C) := by
  refine fn_v F sc_ways_of hm hb ?_ (by decide) ?_
  · rintro ts Qt Qx ⟨n, as, rfl, _⟩; exact ⟨[trD C n as], rfl, rfl⟩
  · rintro cdv A outer s_0 H_0 E ds Qt Qx hr ⟨n, as, e, ok, q⟩
    have g := gd_of sc_ways_of hr
    obtain rfl : ds = [trD C n as] := v_inj e
    have n1 := ok.n1
    have n2 := ok.n2
    have l2 := ok.l2
    refine s_cons ?_
    refine s_setLc (n := n.toNat) (accF := List.replicate n.toNat (.dic [])) (ρF := [some (.v (trD C n as)), none, none, none, none, none, none]) 1 [("_", 6)] (fun i ρ acc => ρ = [some (.v (trD C n as)), none, none, none, none, none, none] ∧ acc = List.replicate i (.dic [])) g
        (it_range1 (nn := n) (eva_cons (ev_fld (ev_var 0) T0.cls T0.np rfl) eva_nil) (by omega) (by omega) G.at) ?_ ?_ ⟨rfl, rfl⟩ ?_ ?_ ?_ ?_
    iterate 1
      · show BlkOk ["track", "ways", "start", "letter", "pay", "to", "_"] (defScope st_ways_of) _ [("_", 6)]
        exact ⟨rfl, by decide +kernel, by decide +kernel, by decide +kernel, by decide +kernel⟩
    · intro j hj t h
      simp at hj
      subst hj
      simp at h
    · rintro i ρ acc hi ⟨rfl, rfl⟩
      · refine ⟨[some (.v (trD C n as)), none, none, none, none, none, some (.v (.int i))], true, [some (.v (trD C n as)), none, none, none, none, none, some (.v (.int i))], fun s H C cl fp => tgk_name 6 g.nd, fun s H C cl fp => ts_nil, fun _ => ⟨.dic [], [some (.v (trD C n as)), none, none, none, none, none, some (.v (.int i))], fun s H C cl fp => ev_dnew, rfl, ?_⟩, fun e => by cases e⟩
        rw [List.replicate_succ']
    · rintro ρ acc ⟨rfl, rfl⟩
      exact ⟨rfl, rfl⟩
    · omega
    refine s_cons (s_for (n := as.length) (item := fun i => tK (aK (as.getD i default))) (fun j ρ => ∃ x1 x2 x3 x4, ρ = [some (.v (trD C n as)), some (.lst (waysT n (as.take j))), x1, x2, x3, x4, none]) g (ρ1 := [some (.v (trD C n as)), some (.lst (List.replicate n.toNat (.dic []))), none, none, none, none, none])
      (Iter.to (it_tup (ds := as.map fun a => tK (aK a)) (ev_fld (ev_var 0) T0.cls T0.na rfl)) (by simp) (fun i hi => by simp [List.getD_eq_getElem?_getD, hi])) ⟨none, none, none, none, ?_⟩ ?_ ?_)
    · have : (List.replicate n.toNat (T.dic [])) = waysT n (as.take 0) := by
        simp [waysT, wayT, stepsOf, List.map_const']
      rw [this]
    · rintro j ρ hj ⟨x1, x2, x3, x4, rfl⟩
      have ea : as.getD j default = as[j] := by simp [List.getD_eq_getElem?_getD, hj]
      have ao := ok.ok as[j] (List.getElem_mem hj)
      have s0 := ao.s0
      have s1 := ao.s1
      generalize hA : as[j] = a at *
      obtain ⟨s, l, p, t⟩ := a
      dsimp only at s0 s1
      rw [ea]
      refine ⟨[some (.v (trD C n as)), some (.lst (waysT n (as.take j))), some (.v (.int s)), some (.v (.str l)), some (.v (.int p)), some (.v (.int t)), none], tg_tup g (tgs_cons (tg_name 2 g) (tgs_cons (tg_name 3 g) (tgs_cons (tg_name 4 g) (tgs_cons (tg_name 5 g) tgs_nil)))) rfl, ?_⟩
      have sn : s.toNat < n.toNat := by omega
      have es : ((s.toNat : Nat) : Int) = s := by omega
      have newk : (Sum.inr l : Key) ∉ (wayT (as.take j) (s.toNat : Nat)).map (·.1) := by
        rw [es]
        intro h
        simp only [wayT, List.map_map, List.mem_map, Function.comp_def] at h
        obtain ⟨b, hb1, hb2⟩ := h
        unfold stepsOf at hb1
        rw [List.mem_filter] at hb1
        obtain ⟨hb1, hb3⟩ := hb1
        obtain ⟨i, hi, rfl⟩ := List.getElem_of_mem hb1
        have tw := ok.tw
        rw [List.length_take] at hi
        have := List.pairwise_iff_getElem.mp tw i j (by simp; omega) (by simpa using hj) (by omega)
        refine this ?_
        simp only [List.getElem_map, hA]
        rw [List.getElem_take] at hb2 hb3
        injection hb2 with hb2
        exact Prod.ext (by simpa using hb3) hb2
      refine s_cons (s_setLD (n := s) (j := s.toNat) (k := .inr l) (kts := wayT (as.take j) (s.toNat : Nat)) (ts := waysT n (as.take j)) 1 g.hu (ev_tup (ds := [.int p, .int t]) (eva_cons (ev_var 4) (eva_cons (ev_var 5) eva_nil)) (by simp)) (ev_var 2) (fun ρ' h => ev_var 3 (by rw [h 3 (by decide)]; rfl)) rfl ?_ ?_ ?_ ?_ ?_)
      · simp only [waysT, List.length_map, List.length_range]
        unfold ixN
        rw [if_pos s0, if_pos (by omega)]
      · simp [waysT, sn]
      · rw [wayT, List.map_map]
        rw [List.Nodup, List.pairwise_map]
        have tw : (as.take j).Pairwise fun a b => (a.1, a.2.1) ≠ (b.1, b.2.1) := (List.pairwise_map.mp ok.tw).sublist (List.take_sublist _ _)
        refine List.Pairwise.imp_of_mem (fun {a b} ha hb h e => h ?_) (List.Pairwise.filter _ tw)
        unfold stepsOf at ha hb
        rw [List.mem_filter] at ha hb
        simp only [Function.comp_def] at e
        injection e with e
        have h1 := ha.2
        have h2 := hb.2
        simp only [beq_iff_eq] at h1 h2
        exact Prod.ext (h1.trans h2.symm) e
      · have : (wayT (as.take j) (s.toNat : Nat)).length ≤ as.length := by
          simp only [wayT, stepsOf, List.length_map]
          exact Nat.le_trans (List.length_filter_le _ _) (by simp; omega)
        omega
      · refine s_nil ⟨some (.v (.int s)), some (.v (.str l)), some (.v (.int p)), some (.v (.int t)), ?_⟩
        have : (waysT n (as.take j)).set s.toNat (.dic (kput (wayT (as.take j) (s.toNat : Nat)) (.inr l) (.v (.tup [.int p, .int t])))) = waysT n (as.take (j + 1)) := by
          rw [kput_new newk, waysT, set_map_range _ _ _ _ sn, waysT]
          refine List.map_congr_left fun i hi => ?_
          by_cases e : i = s.toNat
          · subst e
            rw [if_pos rfl, wayT, wayT, steps_take hj, hA, if_pos es.symm, List.map_append]
            rfl
          · rw [if_neg e, wayT, wayT, steps_take hj, hA, if_neg (fun z => e (by dsimp only at z; omega))]
        rw [← this]
        rfl
    · rintro ρ ⟨x1, x2, x3, x4, rfl⟩
      rw [List.take_length]
      exact s_cons (s_ret (ev_varM 1 rfl) q)
end
end Vl
end
section
set_option maxRecDepth 100000
namespace Vl
open PySem L2
theorem sc_is_place : FnScope ["track", "thing"] ["track", "thing"] (defScope st_is_place) := ⟨rfl, rfl, rfl, by decide +kernel, rfl, by decide +kernel, by decide +kernel⟩
theorem sc_check_place : FnScope ["track", "place"] ["track", "place"] (defScope st_check_place) := ⟨rfl, rfl, rfl, by decide +kernel, rfl, by decide +kernel, by decide +kernel⟩
theorem sc_letters : FnScope ["track", "place"] ["track", "place"] (defScope st_letters) := ⟨rfl, rfl, rfl, by decide +kernel, rfl, by decide +kernel, by decide +kernel⟩
theorem sc_arrow : FnScope ["track", "place", "letter", "moves"] ["track", "place", "letter"] (defScope st_arrow) := ⟨rfl, rfl, rfl, by decide +kernel, rfl, by decide +kernel, by decide +kernel⟩
def R_is_place (C : Addr) : Pr := fun ts Q _ => ∃ n as p, ts = [.v (trD C n as), .v (.int p)] ∧ 0 ≤ p ∧ p < n ∧ Q (.v (.bl true)) ts
def R_check_place (C : Addr) : Pr := fun ts Q _ => ∃ n as p, ts = [.v (trD C n as), .v (.int p)] ∧ 0 ≤ p ∧ p < n ∧ Q (.v .non) ts
def lettersOf (as : List Arw) (p : Int) : List Str := (stepsOf as p).map fun a => a.2.1
def R_letters (C : Addr) : Pr := fun ts Q _ => ∃ n as p, ts = [.v (trD C n as), .v (.int p)] ∧ Good n as ∧ 0 ≤ p ∧ p < n ∧ Q (.v (.str (Txt.join ⟨#[]⟩ (lettersOf as p)))) ts
def R_arrow (C : Addr) : Pr := fun ts Q _ => ∃ n as a, ts = [.v (trD C n as), .v (.int a.1), .v (.str a.2.1)] ∧ Good n as ∧ a ∈ as ∧ Q (.v (.tup [.int a.2.2.1, .int a.2.2.2])) ts
theorem lit {c : Nat} (c1 : 97 ≤ c) (c2 : c ≤ 122) : T.v (.bl (decide (97 ≤ c ∧ c ≤ 122))) = T.v (.bl true) := by rw [decide_eq_true (show 97 ≤ c ∧ c ≤ 122 from ⟨c1, c2⟩)]
theorem sum_ones {α : Type} {f : α → Nat} : ∀ {l : List α}, (∀ x ∈ l, f x = 1) → (l.map f).sum = l.length
  | [], _ => rfl
  | x :: l, h => by rw [List.map_cons, List.sum_cons, h x (by simp), sum_ones fun y hy => h y (by simp [hy]), List.length_cons, Nat.add_comm]
theorem tv_dnotinb {X : Cx} {a b : Expr} {ρ ρ1 ρ2 : Rho} {k : Key} {kvs : List (Key × D)} {pos : Pos} {bo : Bool} (hu : X.A.units + 64 < cLine) (hb : Ev X b ρ (.v (kD k)) ρ1) (ha : Ev X a ρ1 (.v (.dic kvs)) ρ2) (e : (!(kget kvs k).isSome) = bo) (hm : behindInMarks .NotIn a = false := by first | exact nomark _ | rfl) : Tv X (.Compare b [.NotIn] [a] pos) ρ bo ρ2 := e ▸ tv_dnotin hu hb ha hm
theorem way_at {n : Int} {as : List Arw} {p : Int} (h0 : 0 ≤ p) (h1 : p < n) : atI (waysD n as) p = some (.dic (wayD as p)) := by
  obtain ⟨j, rfl⟩ : ∃ j : Nat, p = (j : Int) := ⟨p.toNat, by omega⟩
  refine at_nat ?_
  have : j < n.toNat := by omega
  simp [waysD, this]
theorem way_keys (as : List Arw) (p : Int) : (wayD as p).map (·.1) = (stepsOf as p).map fun a => (.inr a.2.1 : Key) := by simp [wayD, List.map_map, Function.comp_def]
theorem Good.letters {n : Int} {as : List Arw} (ok : Good n as) (p : Int) : ((stepsOf as p).map fun a => a.2.1).Nodup := by
  rw [List.Nodup, List.pairwise_map]
  have tw : as.Pairwise fun a b => (a.1, a.2.1) ≠ (b.1, b.2.1) := List.pairwise_map.mp ok.tw
  refine List.Pairwise.imp_of_mem (fun {a b} ha hb h e => h ?_) (List.Pairwise.filter _ tw)
  unfold stepsOf at ha hb
  rw [List.mem_filter] at ha hb
  have h1 := ha.2
  have h2 := hb.2
  simp only [beq_iff_eq] at h1 h2
  exact Prod.ext (h1.trans h2.symm) e
theorem way_get {n : Int} {as : List Arw} (ok : Good n as) {a : Arw} (ha : a ∈ as) : kget (wayD as a.1) (.inr a.2.1) = some (.tup [.int a.2.2.1, .int a.2.2.2]) := by
  have nd := ok.letters a.1
  have hm : a ∈ stepsOf as a.1 := by unfold stepsOf; rw [List.mem_filter]; exact ⟨ha, by simp⟩
  unfold wayD
  generalize stepsOf as a.1 = l at nd hm
  induction l with
  | nil => cases hm
  | cons b l ih =>
    unfold kget at ih ⊢
    rw [List.map_cons, List.find?_cons]
    by_cases e : a.2.1 = b.2.1
    · have : b = a := by
        rcases List.mem_cons.mp hm with h | h
        · exact h.symm
        · rw [List.map_cons, List.nodup_cons] at nd
          exact absurd (List.mem_map.mpr ⟨a, h, e⟩) nd.1
      subst this
      simp
    · have hne : ¬ ((Sum.inr b.2.1 : Key) = .inr a.2.1) := fun z => e (by injection z with z; exact z.symm)
      simp only [hne, decide_false]
      rw [List.map_cons, List.nodup_cons] at nd
      rcases List.mem_cons.mp hm with h | h
      · subst h; exact absurd rfl e
      · exact ih nd.2 h
section
variable {P : Program} {w : World} {K : PySem.W.Frag} {mg : Str → Option Value} {base : Heap}
theorem fn_is_place {f C : Addr} {fd : FuncData} (F : Fun K "is_place" "is_place" st_is_place f fd) (hm : mg "is_place" = some (.ref f)) (hb : Binds K fd ["track", "thing"] []) (T0 : Tc K C) (Fw : Fn P w K mg base 2 "is_within" R_is_within) : Fn P w K mg base 3 "is_place" (R_is_place C) := by
  refine fn_v F sc_is_place hm hb ?_ (by decide) ?_
  · rintro ts Qt Qx ⟨n, as, p, rfl, _⟩; exact ⟨[trD C n as, .int p], rfl, rfl⟩
  · rintro cdv A outer s_0 H_0 E ds Qt Qx hr ⟨n, as, p, e, h0, h1, q⟩
    have g := gd_of sc_is_place hr
    obtain rfl : ds = [trD C n as, .int p] := v_inj e
    exact s_cons (s_ret (ev_callV [.int p, .int 0, .int (n - 1)] Fw (hr.mono (by decide)) (eva_cons (ev_var 1) (eva_cons ev_int (eva_cons (ev_sub (ev_fld (ev_var 0) T0.cls T0.np rfl) ev_int) eva_nil))) ⟨_, _, _, rfl, wit h0 (by omega)⟩) q)
theorem fn_check_place {f C : Addr} {fd : FuncData} (F : Fun K "check_place" "check_place" st_check_place f fd) (hm : mg "check_place" = some (.ref f)) (hb : Binds K fd ["track", "place"] []) (Fi : Fn P w K mg base 3 "is_place" (R_is_place C)) : Fn P w K mg base 4 "check_place" (R_check_place C) := by
  refine fn_v F sc_check_place hm hb ?_ (by decide) ?_
  · rintro ts Qt Qx ⟨n, as, p, rfl, _⟩; exact ⟨[trD C n as, .int p], rfl, rfl⟩
  · rintro cdv A outer s_0 H_0 E ds Qt Qx hr ⟨n, as, p, e, h0, h1, q⟩
    have g := gd_of sc_check_place hr
    obtain rfl : ds = [trD C n as, .int p] := v_inj e
    exact s_cons (s_if (bo := false) (tv_not (tv_val (bo := true) (ev_callV [trD C n as, .int p] Fi (hr.mono (by decide)) (eva_cons (ev_var 0) (eva_cons (ev_var 1) eva_nil)) ⟨_, _, _, rfl, h0, h1, rfl⟩))) (fun e => by cases e) fun _ => s_nil (s_nil q))
theorem ev_ways {X : Cx} {ρ : Rho} {C : Addr} {n : Int} {as : List Arw} {p : Pos} {pos : Pos} {e : Expr} (Fw : Fn X.prog X.w X.K X.mg X.base 1 "ways_of" (R_ways_of C)) (hr : Room 1 X.A) (ok : Good n as) (he : Ev X e ρ (.v (trD C n as)) ρ) (hg : Gl X "ways_of" := by rfl)
    (hs : starEach [e] X.env = (false, eval e X.env) :: starEach [] X.env := by rfl) : Ev X (.Call (.Name "ways_of" p) [e] [] pos) ρ (.v (.lst (waysD n as))) ρ := by
  have := ev_frz (ev_callV (p := p) (pos := pos) (r := .lst (waysT n as)) [trD C n as] Fw hr (eva_cons he eva_nil hs) ⟨n, as, rfl, ok, rfl⟩ hg (by decide) hs)
  rwa [waysT_d] at this
theorem fn_letters {f C : Addr} {fd : FuncData} (F : Fun K "letters" "letters" st_letters f fd) (hm : mg "letters" = some (.ref f)) (hb : Binds K fd ["track", "place"] []) (G : Bl mg) (Fc : Fn P w K mg base 4 "check_place" (R_check_place C)) (Fw : Fn P w K mg base 1 "ways_of" (R_ways_of C)) : Fn P w K mg base 5 "letters" (R_letters C) := by
  refine fn_v F sc_letters hm hb ?_ (by decide) ?_
  · rintro ts Qt Qx ⟨n, as, p, rfl, _⟩; exact ⟨[trD C n as, .int p], rfl, rfl⟩
  · rintro cdv A outer s_0 H_0 E ds Qt Qx hr ⟨n, as, p, e, ok, h0, h1, q⟩
    have g := gd_of sc_letters hr
    obtain rfl : ds = [trD C n as, .int p] := v_inj e
    refine s_cons (s_expr (ev_callV [trD C n as, .int p] Fc (hr.mono (by decide)) (eva_cons (ev_var 0) (eva_cons (ev_var 1) eva_nil)) ⟨_, _, _, rfl, h0, h1, rfl⟩) ?_)
    refine s_cons (s_ret (ev_join (ws := lettersOf as p) (r := .lst ((wayD as p).map fun q => .v (kD q.1))) ev_str (ev_listD g.calm (eva_cons (ev_ixL (ev_ways Fw (hr.mono (by decide)) ok (ev_var 0)) (ev_var 1) (way_at h0 h1)) eva_nil) (T.d_v _) G.at) ?_ ?_) q)
    · left
      rw [T.d_lst, List.map_map]
      simp only [lettersOf, wayD, List.map_map, Function.comp_def, T.d_v, kD]
    · have hl : ∀ x ∈ lettersOf as p, x.length = 1 := by
        intro x hx
        simp only [lettersOf, stepsOf, List.mem_map, List.mem_filter] at hx
        obtain ⟨a, ⟨ha, _⟩, rfl⟩ := hx
        obtain ⟨c, e, _⟩ := (ok.ok a ha).l
        rw [e]; rfl
      have hs : ((lettersOf as p).map (·.length)).sum ≤ 60 := by
        rw [sum_ones hl]
        have h2 : (lettersOf as p).length ≤ as.length := by
          simp only [lettersOf, stepsOf, List.length_map]
          exact List.length_filter_le _ _
        have := ok.l2
        omega
      have : ((Str.ofString "").length) = 0 := rfl
      rw [this]
      omega
theorem fn_arrow {f C : Addr} {fd : FuncData} (F : Fun K "arrow" "arrow" st_arrow f fd) (hm : mg "arrow" = some (.ref f)) (hb : Binds K fd ["track", "place", "letter"] []) (Fc : Fn P w K mg base 4 "check_place" (R_check_place C)) (Fw : Fn P w K mg base 1 "ways_of" (R_ways_of C)) (Fl : Fn P w K mg base 1 "is_letter" R_is_letter) : Fn P w K mg base 5 "arrow" (R_arrow C) := by
  refine fn_v F sc_arrow hm hb ?_ (by decide) ?_
  · rintro ts Qt Qx ⟨n, as, a, rfl, _⟩; exact ⟨[trD C n as, .int a.1, .str a.2.1], rfl, rfl⟩
  · rintro cdv A outer s_0 H_0 E ds Qt Qx hr ⟨n, as, a, e, ok, ha, q⟩
    have g := gd_of sc_arrow hr
    obtain rfl : ds = [trD C n as, .int a.1, .str a.2.1] := v_inj e
    have ao := ok.ok a ha
    have h0 := ao.s0
    have h1 := ao.s1
    obtain ⟨c, el, c1, c2⟩ := ao.l
    refine s_cons (s_expr (ev_callV [trD C n as, .int a.1] Fc (hr.mono (by decide)) (eva_cons (ev_var 0) (eva_cons (ev_var 1) eva_nil)) ⟨_, _, _, rfl, h0, h1, rfl⟩) ?_)
    refine s_cons (s_set 3 g (ev_ixL (ev_ways Fw (hr.mono (by decide)) ok (ev_var 0)) (ev_var 1) (way_at h0 h1)) ?_)
    refine s_cons (s_if (bo := false) (tv_w (tw_or (bo := false) (bo' := false) (tv_not (tv_val (bo := true) (ev_callV [.str a.2.1] Fl (hr.mono (by decide)) (eva_cons (ev_var 2) eva_nil) ⟨c, by rw [el]; rfl, lit c1 c2⟩))) (fun _ => tw_or1 (tv_dnotinb (k := .inr a.2.1) (kvs := wayD as a.1) g.hu (ev_var 2) (ev_var 3) (by rw [way_get ok ha]; rfl))))) (fun e => by cases e) fun _ => s_nil ?_)
    exact s_cons (s_ret (ev_dget (k := .inr a.2.1) (kvs := wayD as a.1) g.hu (ev_var 3) (ev_var 2) (way_get ok ha) (fun _ _ => rfl)) q)
end
end Vl
end
section
set_option maxRecDepth 100000
namespace Vl
open PySem L2
abbrev st_reached : Stmt := topS 24
theorem sc_reached : FnScope ["track", "place", "ways", "seen", "level", "ahead", "here", "_", "to"] ["track", "place"] (defScope st_reached) := ⟨rfl, rfl, rfl, by decide +kernel, rfl, by decide +kernel, by decide +kernel⟩
inductive Reach (as : List Arw) (p : Int) : Int → Prop
  | start : Reach as p p
  | step {x : Int} {a : Arw} : Reach as p x → a ∈ as → a.1 = x → Reach as p a.2.2.2
theorem Reach.range {n : Int} {as : List Arw} {p x : Int} (ok : Good n as) (h0 : 0 ≤ p) (h1 : p < n) (h : Reach as p x) : 0 ≤ x ∧ x < n := by
  cases h with
  | start => exact ⟨h0, h1⟩
  | step _ ha _ => exact ⟨(ok.ok _ ha).t0, (ok.ok _ ha).t1⟩
theorem nodup_le {α : Type} [DecidableEq α] : ∀ (l D : List α), l.Nodup → (∀ x ∈ l, x ∈ D) → l.length ≤ D.length
  | [], _, _, _ => Nat.zero_le _
  | x :: l, D, nd, h => by
    have hx : x ∈ D := h x (by simp)
    obtain ⟨nx, nl⟩ := List.nodup_cons.mp nd
    have := nodup_le l (D.erase x) nl fun y hy => (List.mem_erase_of_ne (fun e => nx (by rw [← e]; exact hy))).mpr (h y (by simp [hy]))
    rw [List.length_erase_of_mem hx] at this
    have : 0 < D.length := List.length_pos_of_mem hx
    rw [List.length_cons]
    omega
def seenT (S : List Int) : List (Key × T) := S.map fun x => (.inl x, .v (.bl true))
theorem seen_keys (S : List Int) : (seenT S).map (·.1) = S.map Sum.inl := by simp [seenT, List.map_map, Function.comp_def]
theorem seen_nd {S : List Int} (h : S.Nodup) : ((seenT S).map (·.1)).Nodup := by
  rw [seen_keys, List.Nodup, List.pairwise_map]
  exact h.imp fun {a b} h e => h (by injection e)
theorem seen_get (S : List Int) (x : Int) : (kget (seenT S) (.inl x)).isSome = decide (x ∈ S) := by
  unfold kget seenT
  induction S with
  | nil => rfl
  | cons y S ih =>
    rw [List.map_cons, List.find?_cons]
    by_cases e : y = x
    · subst e; simp
    · have : ¬ ((Sum.inl y : Key) = .inl x) := fun z => e (by injection z)
      simp only [this, decide_false]
      rw [ih]
      have : (x = y) = False := by simp; exact fun z => e z.symm
      simp [this]
theorem seen_put {S : List Int} {x : Int} (h : x ∉ S) : kput (seenT S) (.inl x) (.v (.bl true)) = seenT (S ++ [x]) := by
  rw [kput_new]
  · simp [seenT]
  · rw [seen_keys]
    intro z
    obtain ⟨y, hy, e⟩ := List.mem_map.mp z
    injection e with e
    exact h (e ▸ hy)
def R_reached (C : Addr) : Pr := fun ts Q _ => ∃ (n : Int) (as : List Arw) (p : Int) (ms : List Int), ts = [.v (trD C n as), .v (.int p)] ∧ Good n as ∧ 0 ≤ p ∧ p < n ∧ ms.Pairwise (· < ·) ∧ (∀ x, x ∈ ms ↔ Reach as p x) ∧ Q (.v (.tup (ms.map D.int))) ts
/-- ahead of a level: S seen, L the level -/
structure Lev (n : Int) (as : List Arw) (p : Int) (S L : List Int) : Prop where
  nd : S.Nodup
  st : p ∈ S
  re : ∀ x ∈ S, Reach as p x
  sub : ∀ x ∈ L, x ∈ S
  cl : ∀ a ∈ as, a.1 ∈ S → a.1 ∉ L → a.2.2.2 ∈ S
/-- within a level: D what has been gone through, S0 what was seen ahead of it -/
structure Mid (n : Int) (as : List Arw) (p : Int) (S0 A : List Int) (dn : Arw → Prop) : Prop where
  nd : (S0 ++ A).Nodup
  re : ∀ x ∈ S0 ++ A, Reach as p x
  cl : ∀ a ∈ as, dn a → a.2.2.2 ∈ S0 ++ A
theorem Lev.len {n : Int} {as : List Arw} {p : Int} {S : List Int} (ok : Good n as) (h0 : 0 ≤ p) (h1 : p < n) (nd : S.Nodup) (re : ∀ x ∈ S, Reach as p x) : S.length ≤ 12 := by
  have := nodup_le S ((List.range n.toNat).map fun i : Nat => (i : Int)) nd fun x hx => by
    obtain ⟨a, b⟩ := (re x hx).range ok h0 h1
    exact List.mem_map.mpr ⟨x.toNat, by simp; omega, by omega⟩
  simp at this
  have := ok.n2
  omega
section
variable {P : Program} {w : World} {K : PySem.W.Frag} {mg : Str → Option Value} {base : Heap}
theorem fn_reached {f C : Addr} {fd : FuncData} (F : Fun K "reached" "reached" st_reached f fd) (hm : mg "reached" = some (.ref f)) (hb : Binds K fd ["track", "place"] []) (G : Bl mg) (Fc : Fn P w K mg base 4 "check_place" (R_check_place C)) (Fw : Fn P w K mg base 1 "ways_of" (R_ways_of C)) : Fn P w K mg base 5 "reached" (R_reached C) := by
  refine fn_v F sc_reached hm hb ?_ (by decide) ?_
  · rintro ts Qt Qx ⟨n, as, p, ms, rfl, _⟩; exact ⟨[trD C n as, .int p], rfl, rfl⟩
  · rintro cdv A outer s_0 H_0 E ds Qt Qx hr ⟨n, as, p, ms, e, ok, h0, h1, up, hms, q⟩
    have g := gd_of sc_reached hr
    obtain rfl : ds = [trD C n as, .int p] := v_inj e
    refine s_cons (s_expr (ev_callV [trD C n as, .int p] Fc (hr.mono (by decide)) (eva_cons (ev_var 0) (eva_cons (ev_var 1) eva_nil)) ⟨_, _, _, rfl, h0, h1, rfl⟩) ?_)
    refine s_cons (s_set 2 g (ev_ways Fw (hr.mono (by decide)) ok (ev_var 0)) ?_)
    refine s_cons (s_set 3 g (ev_disp1 (k := .inl p) (ev_var 1) ev_bl) ?_)
    refine s_cons (s_set 4 g (ev_lst (ts := [.v (.int p)]) (eva_cons (ev_var 1) eva_nil) (by simp)) ?_)
    refine s_cons (s_while (m0 := 23) (W := fun m ρ => ∃ (S L : List Int) (x6 x7 x8 : Option T), ρ = [some (.v (trD C n as)), some (.v (.int p)), some (.v (.lst (waysD n as))), some (.dic (seenT S)), some (.lst ((L.map D.int).map T.v)), none, x6, x7, x8] ∧ Lev n as p S L ∧ m = 2 * (12 - S.length) + (if L = [] then 0 else 1)) g ⟨[p], [p], none, none, none, rfl, ?_, by simp⟩ ?_)
    · exact ⟨by simp, by simp, fun x hx => by simp at hx; subst hx; exact .start, fun x hx => hx, fun a _ h h' => absurd h h'⟩
    · rintro m ρ ⟨S, L, x6, x7, x8, rfl, lv, rfl⟩
      have l12 := Lev.len ok h0 h1 lv.nd lv.re
      refine ⟨!((L.map D.int).map T.v).isEmpty, _, tv_truO (ts := (L.map D.int).map T.v) 4 rfl (.inl rfl), fun hne => ?_, fun hemp => ?_⟩
      · have hL : L ≠ [] := fun z => by rw [z] at hne; simp at hne
        refine ⟨fun ρ3 => ∃ (A : List Int) (x6 x7 x8 : Option T), ρ3 = [some (.v (trD C n as)), some (.v (.int p)), some (.v (.lst (waysD n as))), some (.dic (seenT (S ++ A))), some (.lst ((A.map D.int).map T.v)), none, x6, x7, x8] ∧ Mid n as p S A (fun a => a.1 ∈ L), ?_, ?_⟩
        · rintro ρ3 ⟨A, y6, y7, y8, rfl, md⟩
          have l12' := Lev.len ok h0 h1 md.nd md.re
          refine ⟨_, ?_, S ++ A, A, y6, y7, y8, rfl, ⟨md.nd, by simp [lv.st], md.re, fun x hx => by simp [hx], fun a ha h h' => ?_⟩, rfl⟩
          · rw [List.length_append] at l12' ⊢
            rw [if_neg hL]
            by_cases hA : A = []
            · rw [if_pos hA, hA]; simp
            · have : 0 < A.length := List.length_pos_iff.mpr hA
              rw [if_neg hA]
              omega
          · have hS : a.1 ∈ S := by
              rcases List.mem_append.mp h with z | z
              · exact z
              · exact absurd z h'
            by_cases hl : a.1 ∈ L
            · exact md.cl a ha hl
            · exact List.mem_append_left _ (lv.cl a ha hS hl)
        · refine s_cons (s_set 5 g (ev_lst (ts := []) eva_nil (by simp)) ?_)
          refine s_cons (s_for (n := L.length) (item := fun i => .int (L.getD i 0)) (fun i ρ => ∃ (A : List Int) (x6 x7 x8 : Option T), ρ = [some (.v (trD C n as)), some (.v (.int p)), some (.v (.lst (waysD n as))), some (.dic (seenT (S ++ A))), some (.v (.lst (L.map D.int))), some (.lst ((A.map D.int).map T.v)), x6, x7, x8] ∧ Mid n as p S A (fun a => a.1 ∈ L.take i)) g
            (ρ1 := [some (.v (trD C n as)), some (.v (.int p)), some (.v (.lst (waysD n as))), some (.dic (seenT S)), some (.v (.lst (L.map D.int))), some (.lst []), x6, x7, x8])
            (Iter.to (it_list (ds := L.map D.int) ?_) (by simp) (fun i hi => by simp [List.getD_eq_getElem?_getD, hi])) ?_ ?_ ?_)
          · exact ev_varL 4
          · refine ⟨[], x6, x7, x8, by rw [List.append_nil]; rfl, ⟨by simpa using lv.nd, by simpa using lv.re, fun a _ h => by simp at h⟩⟩
          · rintro i ρ hi ⟨A, y6, y7, y8, rfl, md⟩
            have hh : L.getD i 0 = L[i] := by simp [List.getD_eq_getElem?_getD, hi]
            have hin : L[i] ∈ S := lv.sub _ (List.getElem_mem hi)
            obtain ⟨r0, r1⟩ := (lv.re _ hin).range ok h0 h1
            rw [hh]
            generalize hx : L[i] = x at *
            refine ⟨[some (.v (trD C n as)), some (.v (.int p)), some (.v (.lst (waysD n as))), some (.dic (seenT (S ++ A))), some (.v (.lst (L.map D.int))), some (.lst ((A.map D.int).map T.v)), some (.v (.int x)), y7, y8], tg_name 6 g, ?_⟩
            refine s_cons (s_for (n := (stepsOf as x).length) (item := fun j => .tup [.int ((stepsOf as x).getD j default).2.2.1, .int ((stepsOf as x).getD j default).2.2.2]) (fun j ρ => ∃ (A' : List Int) (x7 x8 : Option T), ρ = [some (.v (trD C n as)), some (.v (.int p)), some (.v (.lst (waysD n as))), some (.dic (seenT (S ++ A'))), some (.v (.lst (L.map D.int))), some (.lst ((A'.map D.int).map T.v)), some (.v (.int x)), x7, x8] ∧ Mid n as p S A' (fun a => a.1 ∈ L.take i ∨ a ∈ (stepsOf as x).take j)) g
              (ρ1 := [some (.v (trD C n as)), some (.v (.int p)), some (.v (.lst (waysD n as))), some (.dic (seenT (S ++ A))), some (.v (.lst (L.map D.int))), some (.lst ((A.map D.int).map T.v)), some (.v (.int x)), y7, y8])
              (Iter.to (it_values (kvs := wayD as x) (ev_ixL (ev_var 2) (ev_var 6) (way_at r0 r1))) (by simp [wayD]) (fun j hj => by simp [wayD, List.getD_eq_getElem?_getD, hj])) ?_ ?_ ?_)
            · exact ⟨A, y7, y8, rfl, ⟨md.nd, md.re, fun a ha h => md.cl a ha (by simpa using h)⟩⟩
            · rintro j ρ hj ⟨A', z7, z8, rfl, md'⟩
              have hb : (stepsOf as x).getD j default = (stepsOf as x)[j] := by simp [List.getD_eq_getElem?_getD, hj]
              have hbm : (stepsOf as x)[j] ∈ as ∧ (stepsOf as x)[j].1 = x := by
                have key : ∀ b ∈ stepsOf as x, b ∈ as ∧ b.1 = x := fun b hb => by
                  unfold stepsOf at hb
                  rw [List.mem_filter] at hb
                  exact ⟨hb.1, by simpa using hb.2⟩
                exact key _ (List.getElem_mem hj)
              have htk : (stepsOf as x).take (j + 1) = (stepsOf as x).take j ++ [(stepsOf as x)[j]] := List.take_succ_eq_append_getElem hj
              rw [hb, htk]
              generalize (stepsOf as x)[j] = b at *
              obtain ⟨hbm, hbx⟩ := hbm
              have hbr : Reach as p b.2.2.2 := Reach.step (lv.re x hin) hbm hbx
              refine ⟨[some (.v (trD C n as)), some (.v (.int p)), some (.v (.lst (waysD n as))), some (.dic (seenT (S ++ A'))), some (.v (.lst (L.map D.int))), some (.lst ((A'.map D.int).map T.v)), some (.v (.int x)), some (.v (.int b.2.2.1)), some (.v (.int b.2.2.2))], tg_tup g (tgs_cons (tg_name 7 g) (tgs_cons (tg_name 8 g) tgs_nil)) rfl, ?_⟩
              have l12' := Lev.len ok h0 h1 md'.nd md'.re
              refine s_cons (s_if (tv_dnotinO (k := .inl b.2.2.2) g.hu 3 (ev_var 8) rfl (.inl rfl)) (fun hn => ?_) fun hn => ?_)
              · rw [seen_get] at hn
                have hnew : b.2.2.2 ∉ S ++ A' := by simpa using hn
                refine s_cons (s_setD (k := .inl b.2.2.2) (kts := seenT (S ++ A')) 3 g.hu ev_bl (ev_var 8) rfl (.inl rfl) (seen_nd md'.nd) (by simp only [seenT, List.length_map]; omega) ?_)
                refine s_cons (s_append (ts := (A'.map D.int).map T.v) 5 (ev_var 8) rfl (.inl ⟨_, rfl⟩) rfl (.inl rfl) (by simp only [List.length_map]; rw [List.length_append] at l12'; omega) ?_)
                refine s_nil (s_nil ⟨A' ++ [b.2.2.2], some (.v (.int b.2.2.1)), some (.v (.int b.2.2.2)), ?_, ⟨?_, ?_, ?_⟩⟩)
                · have e1 : kput (seenT (S ++ A')) (.inl b.2.2.2) (.v (.bl true)) = seenT (S ++ (A' ++ [b.2.2.2])) := by rw [seen_put hnew, List.append_assoc]
                  have e2 : (A'.map D.int).map T.v ++ [T.v (.int b.2.2.2)] = ((A' ++ [b.2.2.2]).map D.int).map T.v := by simp
                  rw [← e1, ← e2]
                  rfl
                · rw [← List.append_assoc]
                  exact List.nodup_append.mpr ⟨md'.nd, by simp, fun y hy z hz e => by simp at hz; subst hz; subst e; exact hnew hy⟩
                · intro y hy
                  rw [← List.append_assoc] at hy
                  rcases List.mem_append.mp hy with h | h
                  · exact md'.re y h
                  · simp at h; subst h; exact hbr
                · intro a ha h
                  rw [← List.append_assoc]
                  rcases h with h | h
                  · exact List.mem_append_left _ (md'.cl a ha (.inl h))
                  · rcases List.mem_append.mp h with h | h
                    · exact List.mem_append_left _ (md'.cl a ha (.inr h))
                    · simp at h; subst h; simp
              · rw [seen_get] at hn
                have hold : b.2.2.2 ∈ S ++ A' := by
                  by_cases z : b.2.2.2 ∈ S ++ A'
                  · exact z
                  · rw [decide_eq_false z] at hn; cases hn
                refine s_nil (s_nil ⟨A', some (.v (.int b.2.2.1)), some (.v (.int b.2.2.2)), rfl, ⟨md'.nd, md'.re, ?_⟩⟩)
                intro a ha h
                rcases h with h | h
                · exact md'.cl a ha (.inl h)
                · rcases List.mem_append.mp h with h | h
                  · exact md'.cl a ha (.inr h)
                  · simp at h; subst h; exact hold
            · rintro ρ ⟨A', z7, z8, rfl, md'⟩
              refine s_nil ⟨A', _, _, _, rfl, ⟨md'.nd, md'.re, fun a ha h => md'.cl a ha ?_⟩⟩
              rw [List.take_length]
              rw [List.take_succ_eq_append_getElem hi, hx] at h
              rcases List.mem_append.mp h with h | h
              · exact .inl h
              · right
                unfold stepsOf
                rw [List.mem_filter]
                exact ⟨ha, by simpa using h⟩
          · rintro ρ ⟨A, y6, y7, y8, rfl, md⟩
            rw [List.take_length] at md
            exact s_cons (s_set 4 g (ev_varM 5 rfl) (s_nil ⟨A, y6, y7, y8, rfl, md⟩))
      · have hL : L = [] := by
          cases L with
          | nil => rfl
          | cons _ _ => simp at hemp
        subst hL
        have hall : ∀ x, x ∈ S ↔ Reach as p x := fun x => ⟨lv.re x, fun h => by
          induction h with
          | start => exact lv.st
          | step h ha e ih => exact lv.cl _ ha (by rw [e]; exact ih) (by simp)⟩
        have nd2 : ms.Nodup := up.imp fun {a b} h e => by omega
        have pm : ms.Perm S := (List.perm_ext_iff_of_nodup nd2 lv.nd).2 fun x => (hms x).trans (hall x).symm
        refine s_cons (s_ret (ev_tupleL (xs := ms.map D.int) (ev_sortedD (kvs := S.map fun x => (.inl x, .bl true)) (ks := S) (ms := ms) g.calm (eva_cons (ev_varF 3 rfl) eva_nil) ?_ ?_ (by omega) pm (up.imp fun {a b} h => Int.le_of_lt h) G.at) ?_ G.at) q)
        · rw [T.d_v, T.d_dic, seenT, List.map_map]
          simp [Function.comp_def, T.d_v]
        · simp [List.map_map, Function.comp_def]
        · left
          rw [show (ms.map fun n => T.v (.int n)) = (ms.map D.int).map T.v by rw [List.map_map]; rfl, lst_vd]
end
end Vl
end
section
set_option maxRecDepth 100000
namespace Vl
open PySem L2
abbrev st_pool : Stmt := topS 26
abbrev st_draw : Stmt := topS 27
structure Pl where
  sd : Int
  cn : Int
  cs : List Int
def plT (p : Pl) : T := .lst [.v (.int p.sd), .v (.int p.cn), .lst ((p.cs.map D.int).map T.v)]
def mixOf (sd cn m : Int) : Int :=
  let a := ((sd + 7919 * cn) * 48271) % 2147483647
  let b := (a * (a / 1009 + 69621)) % 2147483647
  let c := (b * (b / 2003 + 40692)) % 2147483399
  c / 16 % m
def drawOf (p : Pl) (m : Int) : Int × Pl := match p.cs with
  | [] => (mixOf p.sd (p.cn + 1) m, { p with cn := p.cn + 1 })
  | c :: r => (c % m, { p with cn := p.cn + 1, cs := if c / m = 0 then r else c / m :: r })
theorem draw_0 (p : Pl) {m : Int} (h : 0 < m) : 0 ≤ (drawOf p m).1 := by
  unfold drawOf
  split
  · exact Int.emod_nonneg _ (by omega)
  · exact Int.emod_nonneg _ (by omega)
theorem draw_1 (p : Pl) {m : Int} (h : 0 < m) : (drawOf p m).1 < m := by
  unfold drawOf
  split
  · exact Int.emod_lt_of_pos _ h
  · exact Int.emod_lt_of_pos _ h
theorem draw_len (p : Pl) (m : Int) : (drawOf p m).2.cs.length ≤ p.cs.length := by
  unfold drawOf
  split
  · exact Nat.le_refl _
  · rename_i c r h
    rw [h]
    dsimp only
    split <;> simp
def R_draw : Pr := fun ts Q _ => ∃ (q : Addr) (p : Pl) (m : Int), ts = [.at_ q (plT p), .v (.int m)] ∧ 0 < m ∧ m ≤ 1000 ∧ p.cs.length ≤ 63 ∧ Q (.v (.int (drawOf p m).1)) [.at_ q (plT (drawOf p m).2), .v (.int m)]
theorem sc_draw : FnScope ["pool", "many", "cells", "digit", "mixed"] ["pool", "many"] (defScope st_draw) := ⟨rfl, rfl, rfl, by decide +kernel, rfl, by decide +kernel, by decide +kernel⟩
section
variable {X : Cx} {e a b c o : Expr} {es rest : List Expr} {ρ ρ1 ρ2 ρ3 : Rho} {d x y z : D} {r t t1 u' : T} {ts us : List T} {pos p p2 : Pos} {i k : Nat} {f xa : Str} {R : Pr} {C : Addr}
/-- len of the owned list of slot i -/
theorem ev_lenO (i : Nat) (hi : ρ[i]? = some (some t1)) (ht : t1 = .lst ts ∨ ∃ a, t1 = .at_ a (.lst ts)) (hm : X.mg "len" = none) (hN : X.N[i]? = some xa := by rfl) (hv : Vis X.env.scope xa := by first | exact Or.inl rfl | exact Or.inr (Or.inl rfl) | exact Or.inr (Or.inr rfl))
    (hd1 : (xa == ("__debug__" : Str)) = false := by decide) (hcd : (xa == ("__classdict__" : Str)) = false := by decide) (hg : Gl X "len" := by rfl) (he : starEach [.Name xa p2] X.env = (false, eval (.Name xa p2) X.env) :: starEach [] X.env := by rfl) : Ev X (.Call (.Name "len" p) [.Name xa p2] [] pos) ρ (.v (.int ts.length)) ρ :=
  ev_of (pe_callB call_len hg hm PySem.boot_len (pa_cons (pe_var hN hv hd1 hcd) pa_nil he)) fun B F0 st vst σ H Q hl R k => by
    obtain ⟨v, F, A, e1, ow, eF, _⟩ := R.slot hl hi
    obtain ⟨a, xs, rfl, ex, el⟩ := own_lst ow ht
    exact ⟨_, e1, _, ts.length, rfl, .inl ⟨xs, SqL.of ex, by rw [el]⟩, k _ H (R.pushS fun _ => .int _)⟩
end
section
variable {P : Program} {w : World} {K : PySem.W.Frag} {mg : Str → Option Value} {base : Heap}
theorem fn_draw {f : Addr} {fd : FuncData} (F : Fun K "_law_draw" "_law_draw" st_draw f fd) (hm : mg "_law_draw" = some (.ref f)) (hb : Binds K fd ["pool", "many"] []) (G : Bl mg) : Fn P w K mg base 1 "_law_draw" R_draw := by
  refine fn_m F sc_draw hm hb ?_ (by decide) ?_
  · rintro ts Qt Qx ⟨q, p, m, rfl, _⟩; exact ⟨q, plT p, [.int m], rfl, rfl⟩
  · rintro cdv A outer s_0 H_0 E q u ds Qt Qx hr ⟨q', p, m, e, hm0, hm1, hlen, h⟩
    have g := gd_of sc_draw hr
    rw [List.cons.injEq, T.at_.injEq] at e
    obtain ⟨⟨rfl, rfl⟩, e⟩ := e
    obtain rfl : ds = [.int m] := v_inj e
    refine s_cons (s_setO (n := 1) (ts := [.v (.int p.sd), .v (.int p.cn), .lst ((p.cs.map D.int).map T.v)]) 0 1 (ev_add (ev_ixO (d := .int p.cn) 0 rfl (.inr ⟨_, rfl⟩) ev_int rfl) ev_int) ev_int rfl (.inr ⟨_, rfl⟩) rfl ?_)
    refine s_cons (s_alias (n := 2) (ts := [.v (.int p.sd), .v (.int (p.cn + 1)), .lst ((p.cs.map D.int).map T.v)]) 0 2 2 g ev_int rfl (.inr ⟨_, rfl⟩) rfl rfl (fun _ e => by cases e) (fun _ _ e => by cases e) fun b => ?_)
    refine s_cons (s_if (bo := decide (0 < (((p.cs.map D.int).map T.v).length : Int))) (tv_cmpv (ev_lenO 2 rfl (.inr ⟨_, rfl⟩) G.at) ev_int cv_gt) (fun hne => ?_) fun hemp => ?_)
    · obtain ⟨c, r, hc⟩ : ∃ c r, p.cs = c :: r := by
        cases hp : p.cs with
        | nil => rw [hp] at hne; simp at hne
        | cons c r => exact ⟨c, r, rfl⟩
      have hD : (p.cs.map D.int).map T.v = .v (.int c) :: (r.map D.int).map T.v := by rw [hc]; rfl
      rw [hD]
      have hz : r.length ≤ 62 := by rw [hc] at hlen; simpa using hlen
      have i0 : ∀ x : Int, ixN (T.v (.int x) :: (r.map D.int).map T.v).length 0 = some 0 := fun x => by unfold ixN; rw [if_pos (by decide), if_pos (by rw [List.length_cons]; omega)]; rfl
      have a0 : ∀ x : Int, atI (T.v (.int x) :: (r.map D.int).map T.v) 0 = some (.v (.int x)) := fun x => by unfold atI; rw [i0]; rfl
      refine s_cons (s_set 3 g (ev_mod (ev_intI (eva_cons (ev_ixO (d := .int c) 2 rfl (.inr ⟨_, rfl⟩) ev_int (a0 c)) eva_nil) G.at) (ev_var 1) hm0) ?_)
      refine s_cons (s_setO (n := 0) (ts := .v (.int c) :: (r.map D.int).map T.v) 2 0 (ev_fdiv (ev_intI (eva_cons (ev_ixO (d := .int c) 2 rfl (.inr ⟨_, rfl⟩) ev_int (a0 c)) eva_nil) G.at) (ev_var 1) (show CDiv c m from ⟨hm0, by omega⟩)) ev_int rfl (.inr ⟨_, rfl⟩) (i0 c) ?_)
      have e1 : drawOf p m = (c % m, { p with cn := p.cn + 1, cs := if c / m = 0 then r else c / m :: r }) := by unfold drawOf; rw [hc]
      rw [e1] at h
      refine s_cons (s_if (bo := decide (c / m = 0)) (tv_cmpv (ev_ixO (d := .int (c / m)) 2 rfl (.inr ⟨_, rfl⟩) ev_int (a0 _)) ev_int cv_eqI) (fun hz0 => ?_) fun hz0 => ?_)
      · have hz1 : c / m = 0 := by simpa using hz0
        rw [if_pos hz1] at h
        refine s_cons (s_popAt (n := 0) (ts := .v (.int (c / m)) :: (r.map D.int).map T.v) 2 0 ev_int rfl (.inr ⟨_, rfl⟩) (by decide) (by simp [seqIndex?]) (by simp) ?_)
        refine s_nil ?_
        refine s_back 0 2 2 (q := b) (u := .lst ((r.map D.int).map T.v)) rfl (by decide) rfl (.inr ⟨_, rfl⟩) rfl ?_
        exact s_cons (s_ret (ev_var 3) ⟨_, rfl, h⟩)
      · have hz1 : ¬ c / m = 0 := by simpa using hz0
        rw [if_neg hz1] at h
        refine s_nil ?_
        refine s_back 0 2 2 (q := b) (u := .lst (.v (.int (c / m)) :: (r.map D.int).map T.v)) rfl (by decide) rfl (.inr ⟨_, rfl⟩) rfl ?_
        exact s_cons (s_ret (ev_var 3) ⟨_, rfl, h⟩)
    · have hc : p.cs = [] := by
        cases hp : p.cs with
        | nil => rfl
        | cons c r => rw [hp] at hemp; simp at hemp
      have e1 : drawOf p m = (mixOf p.sd (p.cn + 1) m, { p with cn := p.cn + 1 }) := by unfold drawOf; rw [hc]
      rw [e1] at h
      have hD : (p.cs.map D.int).map T.v = [] := by rw [hc]; rfl
      rw [hD]
      refine s_nil ?_
      refine s_back 0 2 2 (q := b) (u := .lst []) rfl (by decide) rfl (.inr ⟨_, rfl⟩) rfl ?_
      have b1 : ∀ x : Int, 0 ≤ x % 2147483647 ∧ x % 2147483647 < 2147483647 := fun x => ⟨Int.emod_nonneg _ (by decide), Int.emod_lt_of_pos _ (by decide)⟩
      have c1 : ∀ x y : Int, CMul (x % 2147483647) y := fun x y => .inl ⟨by have := (b1 x).1; omega, by have := (b1 x).2; omega⟩
      refine s_cons (s_set 4 g (ev_mod (ev_intI (eva_cons (ev_mul (ev_add (ev_ixO (d := .int p.sd) 0 rfl (.inr ⟨_, rfl⟩) ev_int rfl) (ev_mul ev_int (ev_ixO (d := .int (p.cn + 1)) 0 rfl (.inr ⟨_, rfl⟩) ev_int rfl) (.inl (by decide)))) ev_int (.inr (by decide))) eva_nil) G.at) ev_int (by decide)) ?_)
      refine s_cons (s_set 4 g (ev_mod (ev_intI (eva_cons (ev_mul (ev_var 4) (ev_add (ev_fdiv (ev_var 4) ev_int (show CDiv _ 1009 from by unfold CDiv; decide)) ev_int) (c1 _ _)) eva_nil) G.at) ev_int (by decide)) ?_)
      refine s_cons (s_set 4 g (ev_mod (ev_intI (eva_cons (ev_mul (ev_var 4) (ev_add (ev_fdiv (ev_var 4) ev_int (show CDiv _ 2003 from by unfold CDiv; decide)) ev_int) (c1 _ _)) eva_nil) G.at) ev_int (by decide)) ?_)
      refine s_cons (s_ret (ev_mod (ev_intI (eva_cons (ev_fdiv (ev_var 4) ev_int (show CDiv _ 16 from by unfold CDiv; decide)) eva_nil) G.at) (ev_var 1) hm0) ⟨_, rfl, ?_⟩)
      have e2 : plT { p with cn := p.cn + 1 } = .lst [.v (.int p.sd), .v (.int (p.cn + 1)), .lst []] := by unfold plT; simp [hc]
      rw [e2] at h
      exact h
end
end Vl
end
section
set_option maxRecDepth 100000
namespace Vl
open PySem L2
theorem cut_take (ds : List D) (k : Nat) : cutD ds none (some (k : Int)) = ds.take k := by
  unfold cutD
  have e0 : HT.sIx ds.length 0 none = 0 := rfl
  rw [e0, List.drop_zero, Nat.sub_zero]
  have e1 : HT.sIx ds.length ds.length (some (k : Int)) = min k ds.length := HT.sIx_nat _ _ _
  rw [e1]
  rcases Nat.le_total k ds.length with h | h
  · rw [Nat.min_eq_left h]
  · rw [Nat.min_eq_right h, List.take_length, List.take_of_length_le h]
section
variable {X : Cx} {sts : List Stmt} {ρ ρ1 : Rho} {Z : Outs}
/-- xs[lo:hi], let go -/
theorem ev_slLd {a : Expr} {ds ds' : List D} {pos p2 : Pos} {lo hi : Option Expr} {l u : Option Int} (hd : cutD ds l u = ds') (ha : Ev X a ρ (.v (.lst ds)) ρ1) (h1 : EvO X lo ρ1 l) (h2 : EvO X hi ρ1 u) : Ev X (.Subscript a (.Slice lo hi none p2) pos) ρ (.v (.lst ds')) ρ1 := by
  subst hd
  exact ev_frzL (ev_slL ha h1 h2)
/-- what slot i holds is let be -/
theorem s_forget (i : Nat) (hs : S X sts (ρ.set i none) Z) : S X sts ρ Z := by
  cases hx : ρ[i]? with
  | none => rwa [List.set_eq_of_length_le (List.getElem?_eq_none_iff.mp hx)] at hs
  | some x =>
    cases x with
    | none => rwa [set_self hx] at hs
    | some t =>
      refine s_ghost (fun K B F0 σ H R => ?_) hs
      obtain ⟨F, A, e0, e1, e2, dm, o, nd, fr⟩ := R
      obtain ⟨v, A1, A2, A3, e3, rfl, o3, _, kk⟩ := o.at hx
      have oS' : OwnS K F H σ (ρ.set i none) (A1 ++ A3) := by
        refine (kk none).alter (by simp) fun j' t' ej => ?_
        have : j' ≠ i := fun z => by
          subst z
          rw [List.getElem?_set_self (List.getElem?_eq_some_iff.mp hx).1] at ej
          cases ej
        rw [List.getElem?_set_ne (Ne.symm this)]
      have sub : List.Sublist (A1 ++ A3) (A1 ++ (A2 ++ A3)) := List.Sublist.append (List.Sublist.refl _) (List.sublist_append_right _ _)
      exact ⟨F, _, e0, e1, e2, dm, oS', nd.sublist sub, fun b hb => fr b (sub.subset hb)⟩
end
abbrev st_pool' : Stmt := topS 26
def seedOf (ns : List Int) : Int := (ns.take 63).foldl (fun sd c => (sd * 48271 + c % 2147483629 + 11) % 2147483647) ((ns.take 1).sum % 1000003 + ns.length + 1)
def absI (n : Int) : Int := if n < 0 then -n else n
def poolOf (ns : List Int) : Pl := ⟨seedOf ns, 0, ((ns.take 63).filter fun c => decide (10 ^ 18 ≤ absI c)).map absI⟩
theorem pool_len (ns : List Int) : (poolOf ns).cs.length ≤ 63 := by
  simp only [poolOf, List.length_map]
  exact Nat.le_trans (List.length_filter_le _ _) (by simp; omega)
def R_pool : Pr := fun ts Q _ => ∃ ns : List Int, ts = [.v (.lst (ns.map D.int))] ∧ ns.length ≤ 100000 ∧ Q (plT (poolOf ns)) ts
theorem sc_pool : FnScope ["script", "seed", "cell"] ["script"] (defScope st_pool') := ⟨rfl, rfl, rfl, by decide +kernel, rfl, by decide +kernel, by decide +kernel⟩
section
variable {P : Program} {w : World} {K : PySem.W.Frag} {mg : Str → Option Value} {base : Heap}
theorem fn_pool {f : Addr} {fd : FuncData} (F : Fun K "_law_pool" "_law_pool" st_pool' f fd) (hm : mg "_law_pool" = some (.ref f)) (hb : Binds K fd ["script"] []) (G : Bl mg) : Fn P w K mg base 1 "_law_pool" R_pool := by
  refine fn_v F sc_pool hm hb ?_ (by decide) ?_
  · rintro ts Qt Qx ⟨ns, rfl, _⟩; exact ⟨[.lst (ns.map D.int)], rfl, rfl⟩
  · rintro cdv A outer s_0 H_0 E ds Qt Qx hr ⟨ns, e, hz, h⟩
    have g := gd_of sc_pool hr
    obtain rfl : ds = [.lst (ns.map D.int)] := v_inj e
    have cut1 : cutD (ns.map D.int) none (some 1) = (ns.take 1).map D.int := by rw [show (1 : Int) = ((1 : Nat) : Int) from rfl, cut_take, List.map_take]
    have cut63 : cutD (ns.map D.int) none (some 63) = (ns.take 63).map D.int := by rw [show (63 : Int) = ((63 : Nat) : Int) from rfl, cut_take, List.map_take]
    refine s_cons (s_set 1 g (ev_add (ev_add (ev_mod (ev_intI (eva_cons (ev_sum (ns := ns.take 1) (eva_cons (ev_slL (ev_var 0) evo_none (evo_some ev_int)) eva_nil) (by rw [lst_vd, cut1]) g.calm G.at) eva_nil) G.at) ev_int (by decide)) (ev_len (n := ns.length) (eva_cons (ev_var 0) eva_nil) (by rw [T.d_v]; simp [D.len]) (by omega) G.at)) ev_int) ?_)
    refine s_cons (s_for (n := (ns.take 63).length) (item := fun i => .int ((ns.take 63).getD i 0)) (fun i ρ => ∃ x2, ρ = [some (.v (.lst (ns.map D.int))), some (.v (.int (((ns.take 63).take i).foldl (fun sd c => (sd * 48271 + c % 2147483629 + 11) % 2147483647) ((ns.take 1).sum % 1000003 + ns.length + 1)))), x2]) g
      (ρ1 := [some (.v (.lst (ns.map D.int))), some (.v (.int ((ns.take 1).sum % 1000003 + ns.length + 1))), none])
      (Iter.to (it_list (ds := (ns.take 63).map D.int) ?_) (by rw [List.length_map]) (fun i hi => by simp only [List.getD_eq_getElem?_getD, List.getElem?_map, List.getElem?_eq_getElem hi]; rfl)) ⟨none, rfl⟩ ?_ ?_)
    · exact ev_slLd cut63 (ev_var 0) evo_none (evo_some ev_int)
    · rintro i ρ hi ⟨x2, rfl⟩
      refine ⟨[some (.v (.lst (ns.map D.int))), some (.v (.int (((ns.take 63).take i).foldl (fun sd c => (sd * 48271 + c % 2147483629 + 11) % 2147483647) ((ns.take 1).sum % 1000003 + ns.length + 1)))), some (.v (.int ((ns.take 63).getD i 0)))], tg_name 2 g, ?_⟩
      refine s_cons (s_set 1 g (ev_mod (ev_intI (eva_cons (ev_add (ev_add (ev_mul (ev_var 1) ev_int (.inr (by decide))) (ev_mod (ev_intI (eva_cons (ev_var 2) eva_nil) G.at) ev_int (by decide))) ev_int) eva_nil) G.at) ev_int (by decide)) (s_nil ⟨some (.v (.int ((ns.take 63).getD i 0))), ?_⟩))
      rw [List.take_succ_eq_append_getElem hi, List.foldl_append]
      have : (ns.take 63).getD i 0 = (ns.take 63)[i] := by simp only [List.getD_eq_getElem?_getD, List.getElem?_eq_getElem hi]; rfl
      rw [this]
      rfl
    · rintro ρ ⟨x2, rfl⟩
      rw [List.take_length]
      refine s_forget 2 ?_
      refine s_cons (s_ret (r := plT (poolOf ns)) (ρ1 := [some (.v (.lst (ns.map D.int))), some (.v (.int (seedOf ns))), none]) (ev_lst (eva_cons (ev_var 1) (eva_cons ev_int (eva_cons ?_ eva_nil))) (by simp)) h)
      refine ev_lc (n := (ns.take 63).length) (accF := ((poolOf ns).cs.map D.int).map T.v) [("cell", 2)] (fun i ρ acc => ρ = [some (.v (.lst (ns.map D.int))), some (.v (.int (seedOf ns))), none] ∧ acc = ((((((ns.take 63).take i).filter fun c => decide (10 ^ 18 ≤ absI c)).map absI).map D.int).map T.v)) g
        (Iter.to (it_list (ds := (ns.take 63).map D.int) ?_) (by rw [List.length_map]) (item' := fun i => .int ((ns.take 63).getD i 0)) (fun i hi => by simp only [List.getD_eq_getElem?_getD, List.getElem?_map, List.getElem?_eq_getElem hi]; rfl)) ?_ ?_ ⟨rfl, rfl⟩ ?_ ?_ ?_
      · exact ev_slLd cut63 (ev_var 0) evo_none (evo_some ev_int)
      · show BlkOk ["script", "seed", "cell"] (defScope st_pool') _ [("cell", 2)]
        exact ⟨rfl, by decide +kernel, by decide +kernel, by decide +kernel, by decide +kernel⟩
      · intro j hj t h
        simp at hj
        subst hj
        simp at h
      · rintro i ρ acc hi ⟨rfl, rfl⟩
        have hx : (ns.take 63).getD i 0 = (ns.take 63)[i] := by simp only [List.getD_eq_getElem?_getD, List.getElem?_eq_getElem hi]; rfl
        have htk : (ns.take 63).take (i + 1) = (ns.take 63).take i ++ [(ns.take 63).getD i 0] := by rw [List.take_succ_eq_append_getElem hi, hx]
        refine ⟨[some (.v (.lst (ns.map D.int))), some (.v (.int (seedOf ns))), some (.v (.int ((ns.take 63).getD i 0)))], decide (10 ^ 18 ≤ absI ((ns.take 63).getD i 0)), [some (.v (.lst (ns.map D.int))), some (.v (.int (seedOf ns))), some (.v (.int ((ns.take 63).getD i 0)))], fun s H C cl fp => tgk_name 2 g.nd, fun s H C cl fp => ts_one (tv_cmpv (y := .int ((10 : Int) ^ (18 : Int).toNat)) (ev_abs (eva_cons (ev_var 2) eva_nil) G.at) (ev_pow ev_int ev_int (by unfold CPow; decide)) cv_ge), fun hb => ⟨.v (.int (absI ((ns.take 63).getD i 0))), [some (.v (.lst (ns.map D.int))), some (.v (.int (seedOf ns))), some (.v (.int ((ns.take 63).getD i 0)))], fun s H C cl fp => ev_abs (eva_cons (ev_var 2) eva_nil) G.at, rfl, ?_⟩, fun hb => ⟨rfl, ?_⟩⟩
        · rw [htk, List.filter_append, List.filter_cons, if_pos hb]; simp
        · rw [htk, List.filter_append, List.filter_cons, if_neg (by rw [hb]; decide)]; simp
      · rintro ρ acc ⟨rfl, rfl⟩
        rw [List.take_length]
        exact ⟨rfl, rfl⟩
      · simp; omega
end
end Vl
end
section
set_option maxRecDepth 100000
namespace Vl
open PySem L2
abbrev st_signs : Stmt := topS 28
def chr (c : Nat) : Str := ⟨#[c]⟩
theorem rises_pair : ∀ (cs : List Nat) (c : Nat), PyProof.Rows.risingS (chr c) (cs.map chr) = true → (c :: cs).Pairwise (· ≤ ·)
  | [], c, _ => List.pairwise_singleton _ _
  | d :: cs, c, h => by
    rw [List.map_cons] at h
    unfold PyProof.Rows.risingS at h
    rw [Bool.and_eq_true] at h
    have h1 : c ≤ d := by
      have := h.1
      by_cases z : c ≤ d
      · exact z
      · exfalso
        have e : Spec.ltCps (chr d).cps.toList (chr c).cps.toList = true := by
          have : d < c := by omega
          simp [chr, Spec.ltCps, this]
        rw [e] at this
        cases this
    have ih := rises_pair cs d h.2
    refine List.pairwise_cons.mpr ⟨fun x hx => ?_, ih⟩
    rcases List.mem_cons.mp hx with e | hx
    · rw [e]; exact h1
    · exact Nat.le_trans h1 ((List.pairwise_cons.mp ih).1 x hx)
theorem chr_inj {a b : Nat} (h : chr a = chr b) : a = b := by
  unfold chr at h
  injection h with h
  simpa using h
theorem sorted_chr {cs ms : List Nat} (pm : ms.Perm cs) (sr : ms.Pairwise (· ≤ ·)) : ∀ ys : List Str, ys.Perm (cs.map chr) → PyProof.Rows.sortedS ys = true → ys = ms.map chr := by
  intro ys h1 h2
  have hall : ∀ y ∈ ys, ∃ c, y = chr c := fun y hy => by
    obtain ⟨c, _, e⟩ := List.mem_map.mp (h1.mem_iff.mp hy)
    exact ⟨c, e.symm⟩
  obtain ⟨ds, rfl⟩ : ∃ ds : List Nat, ys = ds.map chr := by
    clear h1 h2
    induction ys with
    | nil => exact ⟨[], rfl⟩
    | cons y ys ih =>
      obtain ⟨c, rfl⟩ := hall y (by simp)
      obtain ⟨ds, rfl⟩ := ih fun z hz => hall z (by simp [hz])
      exact ⟨c :: ds, rfl⟩
  have srt : ds.Pairwise (· ≤ ·) := by
    cases ds with
    | nil => exact List.Pairwise.nil
    | cons c ds => exact rises_pair ds c (by simpa [PyProof.Rows.sortedS] using h2)
  have pm2 : ds.Perm cs := by
    have : ∀ l : List Nat, (l.map chr).map (fun s => s.cps.getD 0 0) = l := fun l => by rw [List.map_map]; simp [Function.comp_def, chr]
    have h3 := h1.map (fun s : Str => s.cps.getD 0 0)
    rwa [this, this] at h3
  rw [List.Perm.eq_of_pairwise (le := fun a b : Nat => a ≤ b) (fun a b _ _ h1 h2 => Nat.le_antisymm h1 h2) srt sr (pm2.trans pm.symm)]
def stepNth (i : Int) : Int := if i = 0 then 1 else if i = 1 then 3 else if i = 2 then 5 else if i = 3 then 7 else 9
/-- the codes as they are drawn -/
def rawOf (st sp : Int) (m : Nat) : List Nat := (List.range m).map fun k : Nat => (97 + (st + sp * (k : Int)) % 26).toNat
def srt (cs : List Nat) : List Nat := cs.mergeSort fun a b => decide (a ≤ b)
theorem srt_perm (cs : List Nat) : (srt cs).Perm cs := List.mergeSort_perm _ _
theorem srt_le (cs : List Nat) : (srt cs).Pairwise (· ≤ ·) := (List.pairwise_mergeSort (le := fun a b : Nat => decide (a ≤ b)) (fun a b c h1 h2 => by simp at *; omega) (fun a b => by simp; omega) cs).imp fun {a b} h => by simpa using h
def signsOf (p : Pl) (m : Nat) : List Nat × Pl :=
  let d1 := drawOf p 26
  let d2 := drawOf d1.2 5
  (srt (rawOf d1.1 (stepNth d2.1) m), d2.2)
def R_signs : Pr := fun ts Q _ => ∃ (q : Addr) (p : Pl) (m : Nat), ts = [.at_ q (plT p), .v (.int m)] ∧ m ≤ 4 ∧ p.cs.length ≤ 63 ∧ Q (.lst (((signsOf p m).1.map fun c => D.str (chr c)).map T.v)) [.at_ q (plT (signsOf p m).2), .v (.int m)]
def abc : Str := "abcdefghijklmnopqrstuvwxyz"
theorem abc_all : ((List.range 26).all fun i => abc.cps.toList[i]? == some (97 + i)) = true := by decide +kernel
theorem abc_at {n : Int} (h0 : 0 ≤ n) (h1 : n < 26) : atI abc.cps.toList n = some (97 + n).toNat := by
  obtain ⟨j, rfl⟩ : ∃ j : Nat, n = (j : Int) := ⟨n.toNat, by omega⟩
  refine at_nat ?_
  have := List.all_eq_true.mp abc_all j (by simp; omega)
  rw [show (97 + (j : Int)).toNat = 97 + j by omega]
  simpa using this
theorem sc_signs : FnScope ["pool", "many", "start", "step", "k"] ["pool", "many"] (defScope st_signs) := ⟨rfl, rfl, rfl, by decide +kernel, rfl, by decide +kernel, by decide +kernel⟩
section
variable {P : Program} {w : World} {K : PySem.W.Frag} {mg : Str → Option Value} {base : Heap}
theorem fn_signs {f : Addr} {fd : FuncData} (F : Fun K "_law_signs" "_law_signs" st_signs f fd) (hm : mg "_law_signs" = some (.ref f)) (hb : Binds K fd ["pool", "many"] []) (G : Bl mg) (Fd : Fn P w K mg base 1 "_law_draw" R_draw) : Fn P w K mg base 2 "_law_signs" R_signs := by
  refine fn_m F sc_signs hm hb ?_ (by decide) ?_
  · rintro ts Qt Qx ⟨q, p, m, rfl, _⟩; exact ⟨q, plT p, [.int m], rfl, rfl⟩
  · rintro cdv A outer s_0 H_0 E q u ds Qt Qx hr ⟨q', p, m, e, hm4, hlen, h⟩
    have g := gd_of sc_signs hr
    rw [List.cons.injEq, T.at_.injEq] at e
    obtain ⟨⟨rfl, rfl⟩, e⟩ := e
    obtain rfl : ds = [.int m] := v_inj e
    have l1 := draw_len p 26
    have a0 := draw_0 p (m := 26) (by decide)
    have a1 := draw_1 p (m := 26) (by decide)
    have b0 := draw_0 (drawOf p 26).2 (m := 5) (by decide)
    have b1 := draw_1 (drawOf p 26).2 (m := 5) (by decide)
    refine s_cons (s_set 2 g (ev_callMV (u' := plT (drawOf p 26).2) [.int 26] 0 Fd hr (eva_cons ev_int eva_nil) rfl (.inr ⟨_, rfl⟩) (fun a => ⟨a, p, 26, rfl, by decide, by decide, hlen, rfl, [.v (.int 26)], rfl⟩) rfl) ?_)
    refine s_cons (s_set 3 g (r := .v (.int (stepNth (drawOf (drawOf p 26).2 5).1))) (ev_ixL (ds := [.int 1, .int 3, .int 5, .int 7, .int 9]) (ev_frzL (ds := [.int 1, .int 3, .int 5, .int 7, .int 9]) (ev_lst (ts := [.v (.int 1), .v (.int 3), .v (.int 5), .v (.int 7), .v (.int 9)]) (eva_cons ev_int (eva_cons ev_int (eva_cons ev_int (eva_cons ev_int (eva_cons ev_int eva_nil))))) (by decide)))
      (ev_callMV (u' := plT (drawOf (drawOf p 26).2 5).2) [.int 5] 0 Fd hr (eva_cons ev_int eva_nil) rfl (.inr ⟨_, rfl⟩) (fun a => ⟨a, (drawOf p 26).2, 5, rfl, by decide, by decide, by omega, rfl, [.v (.int 5)], rfl⟩) rfl) ?_) ?_)
    · generalize (drawOf (drawOf p 26).2 5).1 = i at b0 b1 ⊢
      have : i = 0 ∨ i = 1 ∨ i = 2 ∨ i = 3 ∨ i = 4 := by omega
      rcases this with rfl | rfl | rfl | rfl | rfl <;> rfl
    · unfold signsOf at h
      dsimp only at h
      generalize hst : (drawOf p 26).1 = st at *
      generalize (drawOf (drawOf p 26).2 5).2 = p2 at *
      generalize stepNth (drawOf (drawOf p 26).2 5).1 = sp at *
      have h' : Qt (.lst (((srt (rawOf st sp m)).map chr).map fun n => T.v (.str n))) [.at_ q (plT p2), .v (.int m)] := by
        simpa [List.map_map, Function.comp_def] using h
      refine s_cons (s_ret (ρ1 := [some (.at_ q (plT p2)), some (.v (.int m)), some (.v (.int st)), some (.v (.int sp)), none]) (ev_sortedS (ns := (rawOf st sp m).map chr) (ms := (srt (rawOf st sp m)).map chr) (r := .lst ((((rawOf st sp m).map chr).map D.str).map T.v)) (eva_cons ?_ eva_nil) (by rw [lst_vd]) (by simp [rawOf]; omega) (sorted_chr (srt_perm _) (srt_le _)) G.at) ⟨_, rfl, h'⟩)
      have htk : ∀ i, (((((List.range i).map fun k : Nat => (97 + (st + sp * (k : Int)) % 26).toNat).map chr).map D.str).map T.v) = (List.range i).map fun k : Nat => T.v (.str (chr (97 + (st + sp * (k : Int)) % 26).toNat)) := fun i => by simp [List.map_map, Function.comp_def]
      refine ev_lc (n := m) [("k", 4)] (fun i ρ acc => ρ = [some (.at_ q (plT p2)), some (.v (.int m)), some (.v (.int st)), some (.v (.int sp)), none] ∧ acc = (List.range i).map fun k : Nat => T.v (.str (chr (97 + (st + sp * (k : Int)) % 26).toNat))) g
        (Iter.to (it_range1 (nn := m) (eva_cons (ev_var 1) eva_nil) (by omega) (by omega) G.at) (by simp) (item' := fun i => .int (i : Int)) (fun i hi => rfl)) ?_ ?_ ⟨rfl, rfl⟩ ?_ ?_ (by omega)
      · show BlkOk ["pool", "many", "start", "step", "k"] (defScope st_signs) _ [("k", 4)]
        exact ⟨rfl, by decide +kernel, by decide +kernel, by decide +kernel, by decide +kernel⟩
      · intro j hj t h
        simp at hj
        subst hj
        simp at h
      · rintro i ρ acc hi ⟨rfl, rfl⟩
        have n0 : 0 ≤ (st + sp * (i : Int)) % 26 := Int.emod_nonneg _ (by decide)
        have n1 : (st + sp * (i : Int)) % 26 < 26 := Int.emod_lt_of_pos _ (by decide)
        refine ⟨[some (.at_ q (plT p2)), some (.v (.int m)), some (.v (.int st)), some (.v (.int sp)), some (.v (.int i))], true, [some (.at_ q (plT p2)), some (.v (.int m)), some (.v (.int st)), some (.v (.int sp)), some (.v (.int i))], fun s H C cl fp => tgk_name 4 g.nd, fun s H C cl fp => ts_nil, fun _ => ⟨.v (.str (chr (97 + (st + sp * (i : Int)) % 26).toNat)), [some (.at_ q (plT p2)), some (.v (.int m)), some (.v (.int st)), some (.v (.int sp)), some (.v (.int i))], fun s H C cl fp => ?_, rfl, ?_⟩, fun e => by cases e⟩
        · exact ev_ixS (w := abc) ev_str (ev_mod (ev_intI (eva_cons (ev_add (ev_var 2) (ev_mul (ev_var 3) (ev_var 4) (.inr ⟨by omega, by omega⟩))) eva_nil) G.at) ev_int (by decide)) (by decide +kernel) (abc_at n0 n1)
        · rw [List.range_succ, List.map_append]; rfl
      · rintro ρ acc ⟨rfl, rfl⟩
        exact ⟨(htk m).symm, rfl⟩
end
end Vl
end
section
set_option maxRecDepth 100000
namespace Vl
open PySem L2
abbrev st_bound : Stmt := topS 29
theorem sc_bound : FnScope ["told", "left", "gaps", "turn", "sums", "place", "struck", "found", "gap", "start", "letter", "pay", "goal", "weight"] ["told"] (defScope st_bound) := ⟨rfl, rfl, rfl, by decide +kernel, rfl, by decide +kernel, by decide +kernel⟩
theorem ev_listRg {X : Cx} {a : Expr} {ρ ρ1 : Rho} {n : Int} {p p2 pos pos2 : Pos} (hc : X.calm = true) (ha : Ev X a ρ (.v (.int n)) ρ1) (h0 : 0 ≤ n) (h1 : n ≤ 1000) (hm : X.mg "list" = none) (hm2 : X.mg "range" = none) (hg : Gl X "list" := by rfl) (hg2 : Gl X "range" := by rfl) (na : starEach [a] X.env = (false, eval a X.env) :: starEach [] X.env := by rfl)
    (na2 : starEach [.Call (.Name "range" p2) [a] [] pos2] X.env = (false, eval (.Call (.Name "range" p2) [a] [] pos2) X.env) :: starEach [] X.env := by rfl) : Ev X (.Call (.Name "list" p) [.Call (.Name "range" p2) [a] [] pos2] [] pos) ρ (.v (.lst (((List.range n.toNat).map fun i : Nat => (i : Int)).map D.int))) ρ1 := by
  refine ev_frzL (ev_of (pe_listRg hc hg hm (prg_1 hg2 hm2 (pe_u X a) na) na2) fun B F0 st vst σ H Q hl R k => ha B F0 st vst σ H _ hl R fun v H1 R1 => ?_)
  refine ⟨n, R1.headI, RgOk.of_le (by omega) (by omega) (by omega) (by omega), fun q hq => k _ _ ?_⟩
  refine Rl.newLst (ts := (((List.range n.toNat).map fun i : Nat => (i : Int)).map D.int).map T.v) (vs := rgV 0 n) ?_ (by simp [rgV]) hq
  have e : rgV 0 n = (List.range n.toNat).map fun i : Nat => V.int (i : Int) := by
    unfold rgV
    rw [Int.sub_zero]
    refine List.map_congr_left fun i _ => by rw [Int.zero_add]
  rw [e]
  have R2 := R1.drop
  clear e hq k R R1 ha
  generalize (List.range n.toNat) = l
  induction l with
  | nil => exact R2
  | cons i l ih => exact ih.pushS fun _ => .int _
def toldD (n : Int) (as : List Arw) : D := .tup [.int n, asD as]
/-- told, pays any in 0..9 -/
structure Fit (n : Int) (as : List Arw) : Prop where
  n1 : 1 ≤ n
  n2 : n ≤ 12
  l2 : as.length ≤ 60
  p : ∀ a ∈ as, 0 ≤ a.2.2.1 ∧ a.2.2.1 ≤ 9
def R_bound : Pr := fun ts Q _ => ∃ n as, ts = [.v (toldD n as)] ∧ Fit n as ∧ ∀ b : Int, Q (.v (.int b)) ts
def wOf (as : List Arw) (L : List Int) (pl : Int) : List Int := (as.filter fun a => decide (a.1 = pl) && decide (a.2.2.2 ∈ L)).map fun a => 2520 / max 1 a.2.2.1
theorem wOf_snoc (as : List Arw) (a : Arw) (L : List Int) (pl : Int) : wOf (as ++ [a]) L pl = if (decide (a.1 = pl) && decide (a.2.2.2 ∈ L)) = true then wOf as L pl ++ [2520 / max 1 a.2.2.1] else wOf as L pl := by
  unfold wOf
  rw [List.filter_append, List.filter_cons]
  split <;> simp
theorem w_nn {as : List Arw} {L : List Int} {pl : Int} : 0 ≤ (wOf as L pl).sum := by
  have : ∀ x ∈ wOf as L pl, 0 ≤ x := fun x hx => by
    obtain ⟨a, _, rfl⟩ := List.mem_map.mp hx
    exact Int.ediv_nonneg (by decide) (by omega)
  generalize wOf as L pl = l at this
  induction l with
  | nil => simp
  | cons x l ih =>
    rw [List.sum_cons]
    have h1 := this x (by simp)
    have h2 := ih fun y hy => this y (by simp [hy])
    omega
theorem max_of : ∀ {l : List Int}, l ≠ [] → ∃ m ∈ l, ∀ y ∈ l, y ≤ m
  | [x], _ => ⟨x, by simp, fun y hy => by simp at hy; omega⟩
  | x :: y :: l, _ => by
    obtain ⟨m, h1, h2⟩ := max_of (l := y :: l) (by simp)
    by_cases h : x ≤ m
    · exact ⟨m, by simp at h1 ⊢; exact .inr h1, fun z hz => by
        rcases List.mem_cons.mp hz with e | hz
        · rw [e]; exact h
        · exact h2 z hz⟩
    · exact ⟨x, by simp, fun z hz => by
        rcases List.mem_cons.mp hz with e | hz
        · rw [e]; exact Int.le_refl _
        · have := h2 z hz; omega⟩
section
variable {P : Program} {w : World} {K : PySem.W.Frag} {mg : Str → Option Value} {base : Heap}
theorem fn_bound {f : Addr} {fd : FuncData} (F : Fun K "_law_bound" "_law_bound" st_bound f fd) (hm : mg "_law_bound" = some (.ref f)) (hb : Binds K fd ["told"] []) (G : Bl mg) : Fn P w K mg base 1 "_law_bound" R_bound := by
  refine fn_v F sc_bound hm hb ?_ (by decide) ?_
  · rintro ts Qt Qx ⟨n, as, rfl, _⟩; exact ⟨[toldD n as], rfl, rfl⟩
  · rintro cdv A outer s_0 H_0 E ds Qt Qx hr ⟨n, as, e, ok, h⟩
    have g := gd_of sc_bound hr
    obtain rfl : ds = [toldD n as] := v_inj e
    obtain ⟨n1, n2, l2, hp⟩ := ok
    refine s_cons (s_set 1 g (ev_listRg (n := n) g.calm (ev_ixT (ds := [.int n, asD as]) (ev_var 0) ev_int rfl) (by omega) (by omega) G.at G.at) ?_)
    refine s_cons (s_set 2 g (ev_lst (ts := []) eva_nil (by simp)) ?_)
    refine s_cons (s_forB (n := n.toNat) (item := fun i => .int (i : Int)) (J := fun ρ => ∃ (Gp : List Int) (x1 x3 x4 x5 x6 : Option T), ρ = [some (.v (toldD n as)), x1, some (.lst ((Gp.map D.int).map T.v)), x3, x4, x5, x6, none, none, none, none, none, none, none] ∧ Gp.length ≤ 12 ∧ ∀ y ∈ Gp, 1 ≤ y ∧ y ≤ 2520) (I := fun i ρ => ∃ (L Gp : List Int) (x3 x4 x5 x6 : Option T), ρ = [some (.v (toldD n as)), some (.v (.lst (L.map D.int))), some (.lst ((Gp.map D.int).map T.v)), x3, x4, x5, x6, none, none, none, none, none, none, none] ∧ L.length ≤ 12 ∧ Gp.length ≤ i ∧ ∀ y ∈ Gp, 1 ≤ y ∧ y ≤ 2520) g
      (ρ1 := [some (.v (toldD n as)), some (.v (.lst (((List.range n.toNat).map fun i : Nat => (i : Int)).map D.int))), some (.lst []), none, none, none, none, none, none, none, none, none, none, none])
      (it_range1 (nn := n) (eva_cons (ev_ixT (ds := [.int n, asD as]) (ev_var 0) ev_int rfl) eva_nil) (by omega) (by omega) G.at) ⟨_, [], none, none, none, none, rfl, by simp; omega, by simp, by simp⟩ ?_ ?_ ?_)
    · rintro i ρ hi ⟨L, Gp, x3, x4, x5, x6, rfl, hL, hG, hGb⟩
      refine ⟨[some (.v (toldD n as)), some (.v (.lst (L.map D.int))), some (.lst ((Gp.map D.int).map T.v)), some (.v (.int i)), x4, x5, x6, none, none, none, none, none, none, none], tg_name 3 g, ?_⟩
      refine s_cons (s_set 4 g (ev_lst (ts := []) eva_nil (by simp)) ?_)
      -- the sums
      refine s_cons (s_for (n := L.length) (item := fun j => .int (L.getD j 0)) (fun j ρ => ∃ x5, ρ = [some (.v (toldD n as)), some (.v (.lst (L.map D.int))), some (.lst ((Gp.map D.int).map T.v)), some (.v (.int i)), some (.lst (((L.take j).map fun pl => D.tup [.int (wOf as L pl).sum, .int pl]).map T.v)), x5, x6, none, none, none, none, none, none, none]) g
        (ρ1 := [some (.v (toldD n as)), some (.v (.lst (L.map D.int))), some (.lst ((Gp.map D.int).map T.v)), some (.v (.int i)), some (.lst []), x5, x6, none, none, none, none, none, none, none])
        (Iter.to (it_list (ds := L.map D.int) (ev_var 1)) (by simp) (fun i hi => by simp [List.getD_eq_getElem?_getD, hi])) ⟨x5, rfl⟩ ?_ ?_)
      · rintro j ρ hj ⟨y5, rfl⟩
        have htk : L.take (j + 1) = L.take j ++ [L.getD j 0] := by rw [List.take_succ_eq_append_getElem hj]; simp [List.getD_eq_getElem?_getD, hj]
        generalize hpl : L.getD j 0 = pl at htk
        refine ⟨[some (.v (toldD n as)), some (.v (.lst (L.map D.int))), some (.lst ((Gp.map D.int).map T.v)), some (.v (.int i)), some (.lst (((L.take j).map fun pl => D.tup [.int (wOf as L pl).sum, .int pl]).map T.v)), some (.v (.int pl)), x6, none, none, none, none, none, none, none], by rw [← hpl]; exact tg_name 5 g, ?_⟩
        refine s_cons (s_append (ts := ((L.take j).map fun pl => D.tup [.int (wOf as L pl).sum, .int pl]).map T.v) 4 (r := .v (.tup [.int (wOf as L pl).sum, .int pl])) (ρ1 := [some (.v (toldD n as)), some (.v (.lst (L.map D.int))), some (.lst ((Gp.map D.int).map T.v)), some (.v (.int i)), some (.lst (((L.take j).map fun pl => D.tup [.int (wOf as L pl).sum, .int pl]).map T.v)), some (.v (.int pl)), x6, none, none, none, none, none, none, none])
          (ev_tup (ds := [.int (wOf as L pl).sum, .int pl]) (eva_cons (ev_sum (ns := wOf as L pl) (r := .lst (((wOf as L pl).map D.int).map T.v)) (eva_cons ?_ eva_nil) (by rw [lst_vd]) g.calm G.at) (eva_cons (ev_var 5) eva_nil)) (by simp)) rfl (.inl ⟨_, rfl⟩) rfl (.inl rfl) (by simp; omega) (s_nil ⟨some (.v (.int pl)), ?_⟩))
        · refine ev_lc (n := as.length) (accF := ((wOf as L pl).map D.int).map T.v) [("start", 9), ("letter", 10), ("pay", 11), ("goal", 12)] (fun k ρ acc => ρ = [some (.v (toldD n as)), some (.v (.lst (L.map D.int))), some (.lst ((Gp.map D.int).map T.v)), some (.v (.int i)), some (.lst (((L.take j).map fun pl => D.tup [.int (wOf as L pl).sum, .int pl]).map T.v)), some (.v (.int pl)), x6, none, none, none, none, none, none, none] ∧ acc = ((wOf (as.take k) L pl).map D.int).map T.v) g
            (Iter.to (it_tup (ds := as.map fun a => tK (aK a)) (ev_ixT (ds := [.int n, asD as]) (ev_var 0) ev_int rfl)) (by simp) (item' := fun k => tK (aK (as.getD k default))) (fun i hi => by simp [List.getD_eq_getElem?_getD, hi])) ?_ ?_ ⟨rfl, rfl⟩ ?_ ?_ (by omega)
          · show BlkOk ["told", "left", "gaps", "turn", "sums", "place", "struck", "found", "gap", "start", "letter", "pay", "goal", "weight"] (defScope st_bound) _ _
            exact ⟨rfl, by decide +kernel, by decide +kernel, by decide +kernel, by decide +kernel⟩
          · intro j hj t h
            simp at hj
            rcases hj with rfl | rfl | rfl | rfl <;> simp at h
          · rintro k ρ acc hk ⟨rfl, rfl⟩
            have ha : as.take (k + 1) = as.take k ++ [as.getD k default] := by rw [List.take_succ_eq_append_getElem hk]; simp [List.getD_eq_getElem?_getD, hk]
            have hpa := hp (as.getD k default) (by simp [List.getD_eq_getElem?_getD, hk])
            generalize ea : as.getD k default = a at ha hpa
            obtain ⟨s, l, p, t⟩ := a
            refine ⟨[some (.v (toldD n as)), some (.v (.lst (L.map D.int))), some (.lst ((Gp.map D.int).map T.v)), some (.v (.int i)), some (.lst (((L.take j).map fun pl => D.tup [.int (wOf as L pl).sum, .int pl]).map T.v)), some (.v (.int pl)), x6, none, none, some (.v (.int s)), some (.v (.str l)), some (.v (.int p)), some (.v (.int t)), none], (decide (s = pl) && decide (t ∈ L)), [some (.v (toldD n as)), some (.v (.lst (L.map D.int))), some (.lst ((Gp.map D.int).map T.v)), some (.v (.int i)), some (.lst (((L.take j).map fun pl => D.tup [.int (wOf as L pl).sum, .int pl]).map T.v)), some (.v (.int pl)), x6, none, none, some (.v (.int s)), some (.v (.str l)), some (.v (.int p)), some (.v (.int t)), none],
              fun s' H C cl fp => by simp only [ea]; exact tgk_tup (ds := [.int s, .str l, .int p, .int t]) g.calm (tgks_cons (tgk_name 9 g.nd) (tgks_cons (tgk_name 10 g.nd) (tgks_cons (tgk_name 11 g.nd) (tgks_cons (tgk_name 12 g.nd) tgks_nil)))) rfl, fun s' H C cl fp => ts_one (tv_w (tw_and (tv_cmpv (ev_var 9) (ev_var 5) cv_eqI) (fun _ => tw_and1 (tv_cmpv (ev_var 12) (ev_var 1) (cv_inI rfl))))), fun hbo => ⟨.v (.int (2520 / max 1 p)), [some (.v (toldD n as)), some (.v (.lst (L.map D.int))), some (.lst ((Gp.map D.int).map T.v)), some (.v (.int i)), some (.lst (((L.take j).map fun pl => D.tup [.int (wOf as L pl).sum, .int pl]).map T.v)), some (.v (.int pl)), x6, none, none, some (.v (.int s)), some (.v (.str l)), some (.v (.int p)), some (.v (.int t)), none], fun s' H C cl fp => ev_fdiv ev_int (ev_max2 (eva_cons ev_int (eva_cons (ev_var 11) eva_nil)) g.calm G.at) (by dsimp only at hpa; exact ⟨by omega, by omega⟩), rfl, ?_⟩, fun hbo => ⟨rfl, ?_⟩⟩
            · rw [ha, wOf_snoc, if_pos (show (decide ((s, l, p, t).1 = pl) && decide ((s, l, p, t).2.2.2 ∈ L)) = true from hbo)]; simp
            · rw [ha, wOf_snoc, if_neg (show ¬ (decide ((s, l, p, t).1 = pl) && decide ((s, l, p, t).2.2.2 ∈ L)) = true from by rw [show (decide ((s, l, p, t).1 = pl) && decide ((s, l, p, t).2.2.2 ∈ L)) = false from hbo]; decide)]
          · rintro ρ acc ⟨rfl, rfl⟩
            rw [List.take_length]
            exact ⟨rfl, rfl⟩
        · rw [htk, List.map_append, List.map_append]; rfl
      · rintro ρ ⟨y5, rfl⟩
        rw [List.take_length]
        refine s_forget 5 ?_
        have hlS : (L.filter fun pl => decide ((wOf as L pl).sum < 2520)).length ≤ L.length := List.length_filter_le _ _
        refine s_cons (s_set 6 g (r := .v (.lst ((L.filter fun pl => decide ((wOf as L pl).sum < 2520)).map D.int))) (ρ1 := [some (.v (toldD n as)), some (.v (.lst (L.map D.int))), some (.lst ((Gp.map D.int).map T.v)), some (.v (.int i)), some (.v (.lst (L.map fun pl => D.tup [.int (wOf as L pl).sum, .int pl]))), none, x6, none, none, none, none, none, none, none]) (ev_frzL ?_) ?_)
        · refine ev_lc (n := L.length) (accF := ((L.filter fun pl => decide ((wOf as L pl).sum < 2520)).map D.int).map T.v) [("weight", 13), ("place", 5)] (fun k ρ acc => ρ = [some (.v (toldD n as)), some (.v (.lst (L.map D.int))), some (.lst ((Gp.map D.int).map T.v)), some (.v (.int i)), some (.v (.lst (L.map fun pl => D.tup [.int (wOf as L pl).sum, .int pl]))), none, x6, none, none, none, none, none, none, none] ∧ acc = (((L.take k).filter fun pl => decide ((wOf as L pl).sum < 2520)).map D.int).map T.v) g
            (Iter.to (it_list (ds := L.map fun pl => D.tup [.int (wOf as L pl).sum, .int pl]) (ev_varL 4)) (by simp) (item' := fun k => .tup [.int (wOf as L (L.getD k 0)).sum, .int (L.getD k 0)]) (fun i hi => by simp [List.getD_eq_getElem?_getD, hi])) ?_ ?_ ⟨rfl, rfl⟩ ?_ ?_ (by omega)
          · show BlkOk ["told", "left", "gaps", "turn", "sums", "place", "struck", "found", "gap", "start", "letter", "pay", "goal", "weight"] (defScope st_bound) _ _
            exact ⟨rfl, by decide +kernel, by decide +kernel, by decide +kernel, by decide +kernel⟩
          · intro j hj t h
            simp at hj
            rcases hj with rfl | rfl <;> simp at h
          · rintro k ρ acc hk ⟨rfl, rfl⟩
            have ha : L.take (k + 1) = L.take k ++ [L.getD k 0] := by rw [List.take_succ_eq_append_getElem hk]; simp [List.getD_eq_getElem?_getD, hk]
            refine ⟨[some (.v (toldD n as)), some (.v (.lst (L.map D.int))), some (.lst ((Gp.map D.int).map T.v)), some (.v (.int i)), some (.v (.lst (L.map fun pl => D.tup [.int (wOf as L pl).sum, .int pl]))), some (.v (.int (L.getD k 0))), x6, none, none, none, none, none, none, some (.v (.int (wOf as L (L.getD k 0)).sum))], decide ((wOf as L (L.getD k 0)).sum < 2520), [some (.v (toldD n as)), some (.v (.lst (L.map D.int))), some (.lst ((Gp.map D.int).map T.v)), some (.v (.int i)), some (.v (.lst (L.map fun pl => D.tup [.int (wOf as L pl).sum, .int pl]))), some (.v (.int (L.getD k 0))), x6, none, none, none, none, none, none, some (.v (.int (wOf as L (L.getD k 0)).sum))],
              fun s' H C cl fp => tgk_tup (ds := [.int (wOf as L (L.getD k 0)).sum, .int (L.getD k 0)]) g.calm (tgks_cons (tgk_name 13 g.nd) (tgks_cons (tgk_name 5 g.nd) tgks_nil)) rfl, fun s' H C cl fp => ts_one (tv_cmpv (ev_var 13) ev_int cv_lt), fun hbo => ⟨.v (.int (L.getD k 0)), [some (.v (toldD n as)), some (.v (.lst (L.map D.int))), some (.lst ((Gp.map D.int).map T.v)), some (.v (.int i)), some (.v (.lst (L.map fun pl => D.tup [.int (wOf as L pl).sum, .int pl]))), some (.v (.int (L.getD k 0))), x6, none, none, none, none, none, none, some (.v (.int (wOf as L (L.getD k 0)).sum))], fun s' H C cl fp => ev_var 5, rfl, ?_⟩, fun hbo => ⟨rfl, ?_⟩⟩
            · rw [ha, List.filter_append, List.filter_cons, if_pos hbo]; simp
            · rw [ha, List.filter_append, List.filter_cons, if_neg (by rw [hbo]; decide)]; simp
          · rintro ρ acc ⟨rfl, rfl⟩
            rw [List.take_length]
            exact ⟨rfl, rfl⟩
        · generalize hS : (L.filter fun pl => decide ((wOf as L pl).sum < 2520)) = St at *
          refine s_cons (s_if (bo := decide ((St.length : Int) = 0)) (tv_cmpv (ev_len (n := St.length) (eva_cons (ev_var 6) eva_nil) (by rw [T.d_v]; simp [D.len]) (by omega) G.at) ev_int cv_eqI) (fun h0 => ?_) fun h0 => s_nil ?_)
          · exact s_cons (s_break ⟨Gp, _, _, _, _, _, rfl, by omega, hGb⟩)
          · have hne : St ≠ [] := fun z => by rw [z] at h0; simp at h0
            obtain ⟨m, hm1, hm2⟩ := max_of (l := St.map fun pl => (wOf as L pl).sum) (by simpa using hne)
            have hmb : 0 ≤ m ∧ m < 2520 := by
              obtain ⟨pl, hpl, rfl⟩ := List.mem_map.mp hm1
              rw [← hS, List.mem_filter] at hpl
              exact ⟨w_nn, by simpa using hpl.2⟩
            refine s_cons (s_append (ts := (Gp.map D.int).map T.v) 2 (r := .v (.int (2520 - m))) (ρ1 := [some (.v (toldD n as)), some (.v (.lst (L.map D.int))), some (.lst ((Gp.map D.int).map T.v)), some (.v (.int i)), some (.v (.lst (L.map fun pl => D.tup [.int (wOf as L pl).sum, .int pl]))), none, some (.v (.lst (St.map D.int))), none, none, none, none, none, none, none])
              (ev_sub ev_int (ev_max (ns := St.map fun pl => (wOf as L pl).sum) (m := m) (r := .lst (((St.map fun pl => (wOf as L pl).sum).map D.int).map T.v)) (eva_cons ?_ eva_nil) (by rw [lst_vd]) hm1 hm2 g.calm G.at)) rfl (.inl ⟨_, rfl⟩) rfl (.inl rfl) (by simp; omega) ?_)
            · refine ev_lc (n := L.length) (accF := ((St.map fun pl => (wOf as L pl).sum).map D.int).map T.v) [("weight", 13), ("place", 5)] (fun k ρ acc => ρ = [some (.v (toldD n as)), some (.v (.lst (L.map D.int))), some (.lst ((Gp.map D.int).map T.v)), some (.v (.int i)), some (.v (.lst (L.map fun pl => D.tup [.int (wOf as L pl).sum, .int pl]))), none, some (.v (.lst (St.map D.int))), none, none, none, none, none, none, none] ∧ acc = ((((L.take k).filter fun pl => decide ((wOf as L pl).sum < 2520)).map fun pl => (wOf as L pl).sum).map D.int).map T.v) g
                (Iter.to (it_list (ds := L.map fun pl => D.tup [.int (wOf as L pl).sum, .int pl]) (ev_var 4)) (by simp) (item' := fun k => .tup [.int (wOf as L (L.getD k 0)).sum, .int (L.getD k 0)]) (fun i hi => by simp [List.getD_eq_getElem?_getD, hi])) ?_ ?_ ⟨rfl, rfl⟩ ?_ ?_ (by omega)
              · show BlkOk ["told", "left", "gaps", "turn", "sums", "place", "struck", "found", "gap", "start", "letter", "pay", "goal", "weight"] (defScope st_bound) _ _
                exact ⟨rfl, by decide +kernel, by decide +kernel, by decide +kernel, by decide +kernel⟩
              · intro j hj t h
                simp at hj
                rcases hj with rfl | rfl <;> simp at h
              · rintro k ρ acc hk ⟨rfl, rfl⟩
                have ha : L.take (k + 1) = L.take k ++ [L.getD k 0] := by rw [List.take_succ_eq_append_getElem hk]; simp [List.getD_eq_getElem?_getD, hk]
                refine ⟨[some (.v (toldD n as)), some (.v (.lst (L.map D.int))), some (.lst ((Gp.map D.int).map T.v)), some (.v (.int i)), some (.v (.lst (L.map fun pl => D.tup [.int (wOf as L pl).sum, .int pl]))), some (.v (.int (L.getD k 0))), some (.v (.lst (St.map D.int))), none, none, none, none, none, none, some (.v (.int (wOf as L (L.getD k 0)).sum))], decide ((wOf as L (L.getD k 0)).sum < 2520), [some (.v (toldD n as)), some (.v (.lst (L.map D.int))), some (.lst ((Gp.map D.int).map T.v)), some (.v (.int i)), some (.v (.lst (L.map fun pl => D.tup [.int (wOf as L pl).sum, .int pl]))), some (.v (.int (L.getD k 0))), some (.v (.lst (St.map D.int))), none, none, none, none, none, none, some (.v (.int (wOf as L (L.getD k 0)).sum))],
                  fun s' H C cl fp => tgk_tup (ds := [.int (wOf as L (L.getD k 0)).sum, .int (L.getD k 0)]) g.calm (tgks_cons (tgk_name 13 g.nd) (tgks_cons (tgk_name 5 g.nd) tgks_nil)) rfl, fun s' H C cl fp => ts_one (tv_cmpv (ev_var 13) ev_int cv_lt), fun hbo => ⟨.v (.int (wOf as L (L.getD k 0)).sum), [some (.v (toldD n as)), some (.v (.lst (L.map D.int))), some (.lst ((Gp.map D.int).map T.v)), some (.v (.int i)), some (.v (.lst (L.map fun pl => D.tup [.int (wOf as L pl).sum, .int pl]))), some (.v (.int (L.getD k 0))), some (.v (.lst (St.map D.int))), none, none, none, none, none, none, some (.v (.int (wOf as L (L.getD k 0)).sum))], fun s' H C cl fp => ev_var 13, rfl, ?_⟩, fun hbo => ⟨rfl, ?_⟩⟩
                · rw [ha, List.filter_append, List.filter_cons, if_pos hbo]; simp
                · rw [ha, List.filter_append, List.filter_cons, if_neg (by rw [hbo]; decide)]; simp
              · rintro ρ acc ⟨rfl, rfl⟩
                rw [List.take_length, hS]
                exact ⟨rfl, rfl⟩
            · refine s_cons (s_set 1 g (r := .v (.lst ((L.filter fun pl => decide (pl ∉ St)).map D.int))) (ρ1 := [some (.v (toldD n as)), some (.v (.lst (L.map D.int))), some (.lst ((Gp.map D.int).map T.v ++ [T.v (.int (2520 - m))])), some (.v (.int i)), some (.v (.lst (L.map fun pl => D.tup [.int (wOf as L pl).sum, .int pl]))), none, some (.v (.lst (St.map D.int))), none, none, none, none, none, none, none]) (ev_frzL ?_) ?_)
              · refine ev_lc (n := L.length) (accF := ((L.filter fun pl => decide (pl ∉ St)).map D.int).map T.v) [("place", 5)] (fun k ρ acc => ρ = [some (.v (toldD n as)), some (.v (.lst (L.map D.int))), some (.lst ((Gp.map D.int).map T.v ++ [T.v (.int (2520 - m))])), some (.v (.int i)), some (.v (.lst (L.map fun pl => D.tup [.int (wOf as L pl).sum, .int pl]))), none, some (.v (.lst (St.map D.int))), none, none, none, none, none, none, none] ∧ acc = (((L.take k).filter fun pl => decide (pl ∉ St)).map D.int).map T.v) g
                  (Iter.to (it_list (ds := L.map D.int) (ev_var 1)) (by simp) (item' := fun k => .int (L.getD k 0)) (fun i hi => by simp [List.getD_eq_getElem?_getD, hi])) ?_ ?_ ⟨rfl, rfl⟩ ?_ ?_ (by omega)
                · show BlkOk ["told", "left", "gaps", "turn", "sums", "place", "struck", "found", "gap", "start", "letter", "pay", "goal", "weight"] (defScope st_bound) _ _
                  exact ⟨rfl, by decide +kernel, by decide +kernel, by decide +kernel, by decide +kernel⟩
                · intro j hj t h
                  simp at hj
                  subst hj
                  simp at h
                · rintro k ρ acc hk ⟨rfl, rfl⟩
                  have ha : L.take (k + 1) = L.take k ++ [L.getD k 0] := by rw [List.take_succ_eq_append_getElem hk]; simp [List.getD_eq_getElem?_getD, hk]
                  refine ⟨[some (.v (toldD n as)), some (.v (.lst (L.map D.int))), some (.lst ((Gp.map D.int).map T.v ++ [T.v (.int (2520 - m))])), some (.v (.int i)), some (.v (.lst (L.map fun pl => D.tup [.int (wOf as L pl).sum, .int pl]))), some (.v (.int (L.getD k 0))), some (.v (.lst (St.map D.int))), none, none, none, none, none, none, none], decide (L.getD k 0 ∉ St), [some (.v (toldD n as)), some (.v (.lst (L.map D.int))), some (.lst ((Gp.map D.int).map T.v ++ [T.v (.int (2520 - m))])), some (.v (.int i)), some (.v (.lst (L.map fun pl => D.tup [.int (wOf as L pl).sum, .int pl]))), some (.v (.int (L.getD k 0))), some (.v (.lst (St.map D.int))), none, none, none, none, none, none, none],
                    fun s' H C cl fp => tgk_name 5 g.nd, fun s' H C cl fp => ts_one (tv_cmpv (ev_var 5) (ev_var 6) (cv_notInI (by simp))), fun hbo => ⟨.v (.int (L.getD k 0)), [some (.v (toldD n as)), some (.v (.lst (L.map D.int))), some (.lst ((Gp.map D.int).map T.v ++ [T.v (.int (2520 - m))])), some (.v (.int i)), some (.v (.lst (L.map fun pl => D.tup [.int (wOf as L pl).sum, .int pl]))), some (.v (.int (L.getD k 0))), some (.v (.lst (St.map D.int))), none, none, none, none, none, none, none], fun s' H C cl fp => ev_var 5, rfl, ?_⟩, fun hbo => ⟨rfl, ?_⟩⟩
                  · rw [ha, List.filter_append, List.filter_cons, if_pos hbo]; simp
                  · rw [ha, List.filter_append, List.filter_cons, if_neg (by rw [hbo]; decide)]; simp
                · rintro ρ acc ⟨rfl, rfl⟩
                  rw [List.take_length]
                  exact ⟨rfl, rfl⟩
              · refine s_nil ⟨L.filter fun pl => decide (pl ∉ St), Gp ++ [2520 - m], some (.v (.int i)), some (.v (.lst (L.map fun pl => D.tup [.int (wOf as L pl).sum, .int pl]))), none, some (.v (.lst (St.map D.int))), ?_, Nat.le_trans (List.length_filter_le _ _) hL, by simp; omega, ?_⟩
                · rw [List.map_append, List.map_append]; rfl
                · intro y hy
                  rcases List.mem_append.mp hy with h | h
                  · exact hGb y h
                  · simp at h; subst h; omega
    · rintro ρ ⟨L, Gp, x3, x4, x5, x6, rfl, hL, hG, hGb⟩
      exact ⟨Gp, _, _, _, _, _, rfl, by omega, hGb⟩
    · rintro ρ ⟨Gp, x1, x3, x4, x5, x6, rfl, hG, hGb⟩
      refine s_cons (s_set 7 g ev_int ?_)
      refine s_cons (s_for (n := Gp.length) (item := fun j => .int (Gp.reverse.getD j 1)) (fun j ρ => ∃ (b : Int) (x8 : Option T), ρ = [some (.v (toldD n as)), x1, some (.v (.lst (Gp.map D.int))), x3, x4, x5, x6, some (.v (.int b)), x8, none, none, none, none, none]) g
        (ρ1 := [some (.v (toldD n as)), x1, some (.v (.lst (Gp.map D.int))), x3, x4, x5, x6, some (.v (.int 0)), none, none, none, none, none, none])
        (Iter.to (it_list (ds := (Gp.map D.int).reverse) (ev_frzL (ev_revL (ev_varL 2)))) (by simp) (fun i hi => by rw [← List.map_reverse]; simp [List.getD_eq_getElem?_getD, hi])) ⟨0, none, rfl⟩ ?_ ?_)
      · rintro j ρ hj ⟨b, x8, rfl⟩
        have hin : Gp.reverse.getD j 1 ∈ Gp := by
          have : Gp.reverse.getD j 1 ∈ Gp.reverse := by
            simp only [List.getD_eq_getElem?_getD]
            rw [List.getElem?_eq_getElem (by simpa using hj)]
            exact List.getElem_mem _
          simpa using this
        obtain ⟨g1, g2⟩ := hGb _ hin
        refine ⟨[some (.v (toldD n as)), x1, some (.v (.lst (Gp.map D.int))), x3, x4, x5, x6, some (.v (.int b)), some (.v (.int (Gp.reverse.getD j 1))), none, none, none, none, none], tg_name 8 g, ?_⟩
        exact s_cons (s_set 7 g (ev_add (ev_fdiv (ev_mul (ev_add (ev_var 7) ev_int) ev_int (.inr (by decide))) (ev_var 8) ⟨by omega, by omega⟩) ev_int) (s_nil ⟨_, some (.v (.int (Gp.reverse.getD j 1))), rfl⟩))
      · rintro ρ ⟨b, x8, rfl⟩
        exact s_cons (s_ret (ev_var 7) (h b))
end
end Vl
end
section
set_option maxRecDepth 100000
namespace Vl
open PySem L2
abbrev st_mild : Stmt := topS 30
theorem sc_mild : FnScope ["told", "place", "letter", "pay", "goal"] ["told"] (defScope st_mild) := ⟨rfl, rfl, rfl, by decide +kernel, rfl, by decide +kernel, by decide +kernel⟩
def mild1 (a : Arw) : Arw := (a.1, a.2.1, (if 1 < a.2.2.1 then 9 else a.2.2.1), a.2.2.2)
def R_mild : Pr := fun ts Q _ => ∃ n as, ts = [.v (toldD n as)] ∧ Fit n as ∧ Q (.v (toldD n as)) ts ∧ Q (.v (toldD n (as.map mild1))) ts
section
variable {P : Program} {w : World} {K : PySem.W.Frag} {mg : Str → Option Value} {base : Heap}
theorem fn_mild {f : Addr} {fd : FuncData} (F : Fun K "_law_mild" "_law_mild" st_mild f fd) (hm : mg "_law_mild" = some (.ref f)) (hb : Binds K fd ["told"] []) (G : Bl mg) (Fb : Fn P w K mg base 1 "_law_bound" R_bound) : Fn P w K mg base 2 "_law_mild" R_mild := by
  refine fn_v F sc_mild hm hb ?_ (by decide) ?_
  · rintro ts Qt Qx ⟨n, as, rfl, _⟩; exact ⟨[toldD n as], rfl, rfl⟩
  · rintro cdv A outer s_0 H_0 E ds Qt Qx hr ⟨n, as, e, ok, h1, h2⟩
    have g := gd_of sc_mild hr
    obtain rfl : ds = [toldD n as] := v_inj e
    refine s_cons (s_ifN (Ψ := fun _ ρ1 => ρ1 = [some (.v (toldD n as)), none, none, none, none]) (tvn_cmp (Φ := fun r ρ1 => (∃ b : Int, r = .v (.int b)) ∧ ρ1 = [some (.v (toldD n as)), none, none, none, none]) (y := .int 10000) op_le (evn_callV [toldD n as] Fb hr (eva_cons (ev_var 0) eva_nil) ⟨n, as, rfl, ok, fun b => ⟨⟨b, rfl⟩, rfl⟩⟩) (fun r ρ1 hf => ?_) (fun x ρ1 hf => ?_)) (fun ρ1 hp => ?_) fun ρ1 hp => ?_)
    · obtain ⟨⟨b, rfl⟩, rfl⟩ := hf
      exact ⟨_, rfl, ev_int⟩
    · obtain ⟨⟨b, eb⟩, rfl⟩ := hf
      injection eb with eb
      subst eb
      exact ⟨decide (b ≤ 10000), rfl, fun H v u Q hv hu k => by obtain ⟨rfl, rfl⟩ := den_ii hv hu; exact ⟨_, _, rfl, rfl, k⟩⟩
    · subst hp
      exact s_cons (s_ret (ev_var 0) h1)
    · subst hp
      have l2 := ok.l2
      refine s_nil (s_cons (s_ret (ρ1 := [some (.v (toldD n as)), none, none, none, none]) (ev_tup (ds := [.int n, asD (as.map mild1)]) (eva_cons (ev_ixT (ds := [.int n, asD as]) (ev_var 0) ev_int rfl) (eva_cons (ev_tupleL (xs := (as.map mild1).map fun a => tK (aK a)) (r := .lst (((as.map mild1).map fun a => tK (aK a)).map T.v)) ?_ (.inl (lst_vd _)) G.at) eva_nil)) (by simp)) h2))
      refine ev_lc (n := as.length) (accF := ((as.map mild1).map fun a => tK (aK a)).map T.v) [("place", 1), ("letter", 2), ("pay", 3), ("goal", 4)] (fun k ρ acc => ρ = [some (.v (toldD n as)), none, none, none, none] ∧ acc = (((as.take k).map mild1).map fun a => tK (aK a)).map T.v) g
        (Iter.to (it_tup (ds := as.map fun a => tK (aK a)) (ev_ixT (ds := [.int n, asD as]) (ev_var 0) ev_int rfl)) (by simp) (item' := fun k => tK (aK (as.getD k default))) (fun i hi => by simp [List.getD_eq_getElem?_getD, hi])) ?_ ?_ ⟨rfl, rfl⟩ ?_ ?_ (by omega)
      · show BlkOk ["told", "place", "letter", "pay", "goal"] (defScope st_mild) _ _
        exact ⟨rfl, by decide +kernel, by decide +kernel, by decide +kernel, by decide +kernel⟩
      · intro j hj t h
        simp at hj
        rcases hj with rfl | rfl | rfl | rfl <;> simp at h
      · rintro k ρ acc hk ⟨rfl, rfl⟩
        have ha : as.take (k + 1) = as.take k ++ [as.getD k default] := by rw [List.take_succ_eq_append_getElem hk]; simp [List.getD_eq_getElem?_getD, hk]
        generalize ea : as.getD k default = a at ha
        obtain ⟨s, l, p, t⟩ := a
        refine ⟨[some (.v (toldD n as)), some (.v (.int s)), some (.v (.str l)), some (.v (.int p)), some (.v (.int t))], true, [some (.v (toldD n as)), some (.v (.int s)), some (.v (.str l)), some (.v (.int p)), some (.v (.int t))],
          fun s' H C cl fp => by simp only [ea]; exact tgk_tup (ds := [.int s, .str l, .int p, .int t]) g.calm (tgks_cons (tgk_name 1 g.nd) (tgks_cons (tgk_name 2 g.nd) (tgks_cons (tgk_name 3 g.nd) (tgks_cons (tgk_name 4 g.nd) tgks_nil)))) rfl, fun s' H C cl fp => ts_nil, fun _ => ⟨.v (tK (aK (mild1 (s, l, p, t)))), [some (.v (toldD n as)), some (.v (.int s)), some (.v (.str l)), some (.v (.int p)), some (.v (.int t))], fun s' H C cl fp => ?_, rfl, ?_⟩, fun e => by cases e⟩
        · refine ev_tup (ds := [.int s, .str l, .int (if 1 < p then 9 else p), .int t]) (eva_cons (ev_var 1) (eva_cons (ev_var 2) (eva_cons (ev_ixL (ds := [.int p, .int 9]) (n := if decide (1 < p) then 1 else 0) (ev_frzL (ds := [.int p, .int 9]) (ev_lst (ts := [.v (.int p), .v (.int 9)]) (eva_cons (ev_var 3) (eva_cons ev_int eva_nil)) (by simp))) (ev_intB (eva_cons (ev_cmpv (ev_var 3) ev_int cv_gt) eva_nil) G.at) ?_) (eva_cons (ev_var 4) eva_nil)))) (by simp)
          by_cases h : 1 < p
          · simp only [h, decide_true, if_true]; rfl
          · simp only [h, decide_false, if_false]; rfl
        · rw [ha, List.map_append, List.map_append, List.map_append]; rfl
      · rintro ρ acc ⟨rfl, rfl⟩
        rw [List.take_length]
        exact ⟨rfl, rfl⟩
end
end Vl
end
section
set_option maxRecDepth 100000
namespace Vl
open PySem L2
abbrev st_told : Stmt := topS 31
theorem sc_told : FnScope ["pool", "few", "kind", "places", "signs", "pays", "found", "place", "some", "sign"] ["pool", "few"] (defScope st_told) := ⟨rfl, rfl, rfl, by decide +kernel, rfl, by decide +kernel, by decide +kernel⟩
/-! ### the signs -/
theorem raw_nodup {st i : Int} {m : Nat} (h0 : 0 ≤ st) (h1 : st < 26) (hm : m ≤ 4) : (rawOf st (stepNth i) m).Nodup := by
  unfold rawOf
  rw [List.Nodup, List.pairwise_map]
  refine (List.pairwise_lt_range).imp_of_mem fun {a b} ha hb hab e => ?_
  simp at ha hb
  have sp : stepNth i = 1 ∨ stepNth i = 3 ∨ stepNth i = 5 ∨ stepNth i = 7 ∨ stepNth i = 9 := by
    unfold stepNth
    split
    · exact .inl rfl
    · split
      · exact .inr (.inl rfl)
      · split
        · exact .inr (.inr (.inl rfl))
        · split
          · exact .inr (.inr (.inr (.inl rfl)))
          · exact .inr (.inr (.inr (.inr rfl)))
  have e2 : (97 + (st + stepNth i * (a : Int)) % 26) = (97 + (st + stepNth i * (b : Int)) % 26) := by
    have := Int.emod_nonneg (st + stepNth i * (a : Int)) (show (26 : Int) ≠ 0 by decide)
    have := Int.emod_nonneg (st + stepNth i * (b : Int)) (show (26 : Int) ≠ 0 by decide)
    omega
  rcases sp with s | s | s | s | s <;> rw [s] at e2 <;> omega
theorem raw_range {st sp : Int} {m : Nat} : ∀ c ∈ rawOf st sp m, 97 ≤ c ∧ c ≤ 122 := fun c hc => by
  obtain ⟨k, _, rfl⟩ := List.mem_map.mp hc
  have := Int.emod_nonneg (st + sp * (k : Int)) (show (26 : Int) ≠ 0 by decide)
  have := Int.emod_lt_of_pos (st + sp * (k : Int)) (show (0 : Int) < 26 by decide)
  omega
structure SignsOk (cs : List Nat) : Prop where
  nd : cs.Nodup
  rg : ∀ c ∈ cs, 97 ≤ c ∧ c ≤ 122
  len : cs.length ≤ 4
  ne : cs ≠ []
theorem signs_ok (p : Pl) {m : Nat} (h0 : 1 ≤ m) (h1 : m ≤ 4) : SignsOk (signsOf p m).1 := by
  have pm : (signsOf p m).1.Perm (rawOf (drawOf p 26).1 (stepNth (drawOf (drawOf p 26).2 5).1) m) := srt_perm _
  have hl : (rawOf (drawOf p 26).1 (stepNth (drawOf (drawOf p 26).2 5).1) m).length = m := by simp [rawOf]
  refine ⟨pm.nodup_iff.mpr (raw_nodup (draw_0 p (by decide)) (draw_1 p (by decide)) h1), fun c hc => raw_range c (pm.mem_iff.mp hc), by rw [pm.length_eq, hl]; exact h1, fun z => ?_⟩
  have := pm.length_eq
  rw [z, hl] at this
  simp at this
  omega
theorem signs_len (p : Pl) (m : Nat) : (signsOf p m).2.cs.length ≤ p.cs.length := Nat.le_trans (draw_len _ _) (draw_len _ _)
def someStep (kd : Int) (s : List Nat × Pl) (c : Nat) : List Nat × Pl := if kd < 2 then (s.1 ++ [c], s.2) else if 0 < (drawOf s.2 3).1 then (s.1 ++ [c], (drawOf s.2 3).2) else (s.1, (drawOf s.2 3).2)
def someOf (kd : Int) (p : Pl) (cs : List Nat) : List Nat × Pl := cs.foldl (someStep kd) ([], p)
theorem some_snoc (kd : Int) (p : Pl) (cs : List Nat) (c : Nat) : someOf kd p (cs ++ [c]) = someStep kd (someOf kd p cs) c := by unfold someOf; rw [List.foldl_append]; rfl
theorem some_ok (kd : Int) (p : Pl) (cs : List Nat) : (someOf kd p cs).1.Sublist cs ∧ (someOf kd p cs).2.cs.length ≤ p.cs.length := by
  have key : ∀ n, n ≤ cs.length → (someOf kd p (cs.take n)).1.Sublist (cs.take n) ∧ (someOf kd p (cs.take n)).2.cs.length ≤ p.cs.length := by
    intro n
    induction n with
    | zero => intro _; exact ⟨List.Sublist.refl _, Nat.le_refl _⟩
    | succ n ih =>
      intro hn
      obtain ⟨i1, i2⟩ := ih (by omega)
      rw [List.take_succ_eq_append_getElem (by omega), some_snoc]
      unfold someStep
      split
      · exact ⟨i1.append (List.Sublist.refl _), i2⟩
      · have := draw_len (someOf kd p (cs.take n)).2 3
        split
        · exact ⟨i1.append (List.Sublist.refl _), by dsimp only; omega⟩
        · exact ⟨i1.trans (List.sublist_append_left _ _), by dsimp only; omega⟩
  have := key cs.length (Nat.le_refl _)
  rwa [List.take_length] at this
/-! ### what is found -/
structure FoundOk (cs : List Nat) (n i : Int) (F : List Arw) : Prop where
  ok : ∀ a ∈ F, 0 ≤ a.1 ∧ a.1 < i ∧ (∃ c ∈ cs, a.2.1 = chr c) ∧ 0 ≤ a.2.2.1 ∧ a.2.2.1 ≤ 9 ∧ 0 ≤ a.2.2.2 ∧ a.2.2.2 < n
  tw : (F.map fun a => (a.1, a.2.1)).Nodup
  all : ∀ j : Int, 0 ≤ j → j < i → ∃ a ∈ F, a.1 = j
/-! ### sorted -/
def leA (a b : Arw) : Bool := !ltK (aK b) (aK a)
def sortA (F : List Arw) : List Arw := F.mergeSort leA
theorem sortA_perm (F : List Arw) : (sortA F).Perm F := List.mergeSort_perm _ _
theorem sortA_le (F : List Arw) : (sortA F).Pairwise fun a b => ltK (aK b) (aK a) = false :=
  (List.pairwise_mergeSort (le := leA) (fun a b c h1 h2 => by
    unfold leA at *
    have g1 : ltK (aK b) (aK a) = false := by simpa using h1
    have g2 : ltK (aK c) (aK b) = false := by simpa using h2
    have : ltK (aK c) (aK a) = false := lex_down g1 g2
    simp [this]) (fun a b => by
    unfold leA
    cases e : ltK (aK b) (aK a) with
    | false => simp
    | true =>
      have : ltK (aK a) (aK b) = false := lex_asym e
      simp [this]) F).imp fun {a b} h => by unfold leA at h; simpa using h
theorem aK_inj {a b : Arw} (h : aK a = aK b) : (a.1, a.2.1) = (b.1, b.2.1) := by
  unfold aK at h
  simp only [List.cons.injEq, Sum.inl.injEq, Sum.inr.injEq, and_true] at h
  exact Prod.ext h.1 h.2.1
theorem lt_front {a b a' b' : Arw} (ha : (a.1, a.2.1) = (a'.1, a'.2.1)) (hb : (b.1, b.2.1) = (b'.1, b'.2.1)) (ne : (a.1, a.2.1) ≠ (b.1, b.2.1)) : ltK (aK a) (aK b) = ltK (aK a') (aK b') := by
  obtain ⟨s, l, p, t⟩ := a
  obtain ⟨s', l', p', t'⟩ := a'
  obtain ⟨u, k, q, v⟩ := b
  obtain ⟨u', k', q', v'⟩ := b'
  simp only [Prod.mk.injEq] at ha hb
  obtain ⟨rfl, rfl⟩ := ha
  obtain ⟨rfl, rfl⟩ := hb
  simp only [ltK, aK, List.map_cons, List.map_nil, kI]
  by_cases e : s = u
  · subst e
    rw [PyProof.Rows.lex_self, PyProof.Rows.lex_self]
    have hl : l.cps.toList ≠ k.cps.toList := fun z => ne (by
      have : l = k := by
        cases l; cases k
        simp only [Array.toList_inj] at z
        rw [z]
      rw [this])
    have hl' : (Sum.inr l.cps.toList : Int ⊕ List Nat) ≠ .inr k.cps.toList := fun z => hl (by injection z)
    rw [PyProof.Rows.lex_diff (O := PyProof.Rows.itemOrd) hl', PyProof.Rows.lex_diff (O := PyProof.Rows.itemOrd) hl']
  · have he : (Sum.inl s : Int ⊕ List Nat) ≠ .inl u := fun z => e (by injection z)
    rw [PyProof.Rows.lex_diff (O := PyProof.Rows.itemOrd) he, PyProof.Rows.lex_diff (O := PyProof.Rows.itemOrd) he]
theorem good_of {cs : List Nat} {n : Int} {F : List Arw} (so : SignsOk cs) (n1 : 1 ≤ n) (n2 : n ≤ 12) (fo : FoundOk cs n n F) (hl : F.length ≤ 48) : Good n (sortA F) := by
  have pm := sortA_perm F
  have tw : ((sortA F).map fun a => (a.1, a.2.1)).Nodup := (pm.map _).nodup_iff.mpr fo.tw
  refine ⟨n1, n2, ?_, by rw [pm.length_eq]; omega, fun a ha => ?_, ?_, tw, fun i h0 h1 => ?_⟩
  · obtain ⟨a, ha, _⟩ := fo.all 0 (by omega) (by omega)
    rw [pm.length_eq]
    exact List.length_pos_of_mem ha
  · obtain ⟨h1, h2, ⟨c, hc, h3⟩, h4, h5, h6, h7⟩ := fo.ok a (pm.mem_iff.mp ha)
    obtain ⟨c1, c2⟩ := so.rg c hc
    exact ⟨h1, h2, ⟨c, h3, c1, c2⟩, h4, h5, h6, h7⟩
  · rw [List.pairwise_map]
    have := (sortA_le F).and (List.pairwise_map.mp tw)
    refine this.imp fun {a b} h => ?_
    cases e : ltK (aK a) (aK b) with
    | true => rfl
    | false => exact absurd (aK_inj (ltK_total e h.1)) h.2
  · obtain ⟨a, ha, e⟩ := fo.all i h0 h1
    exact ⟨a, pm.mem_iff.mpr ha, e⟩
theorem good_mild {n : Int} {as : List Arw} (h : Good n as) : Good n (as.map mild1) := by
  refine ⟨h.n1, h.n2, by simpa using h.l1, by simpa using h.l2, fun a ha => ?_, ?_, ?_, fun i h0 h1 => ?_⟩
  · obtain ⟨b, hb, rfl⟩ := List.mem_map.mp ha
    obtain ⟨s0, s1, l, p0, p1, t0, t1⟩ := h.ok b hb
    refine ⟨s0, s1, l, ?_, ?_, t0, t1⟩ <;> simp only [mild1] <;> split <;> omega
  · have up := List.pairwise_map.mp h.up
    have tw := List.pairwise_map.mp h.tw
    rw [List.map_map, List.pairwise_map]
    refine (up.and tw).imp fun {a b} h => ?_
    rw [← h.1]
    exact (lt_front (a := a) (b := b) (a' := mild1 a) (b' := mild1 b) rfl rfl h.2).symm
  · have tw := List.pairwise_map.mp h.tw
    rw [List.map_map, List.Nodup, List.pairwise_map]
    exact tw.imp fun {a b} h => h
  · obtain ⟨a, ha, e⟩ := h.all i h0 h1
    exact ⟨mild1 a, List.mem_map.mpr ⟨a, ha, rfl⟩, e⟩
end Vl
end
section
set_option maxRecDepth 100000
namespace Vl
open PySem L2
def paysOf (k : Int) : List Int := if k = 0 then [2, 3, 4] else if k = 1 then [0, 1, 2, 3] else if k = 2 then [3, 4, 5] else if k = 3 then [0, 1, 2, 3, 4, 5, 6, 7, 8, 9] else [2, 3, 5]
theorem pays_ok (k : Int) : (∀ y ∈ paysOf k, 0 ≤ y ∧ y ≤ 9) ∧ 1 ≤ (paysOf k).length ∧ (paysOf k).length ≤ 10 := by
  unfold paysOf
  split
  · decide
  · split
    · decide
    · split
      · decide
      · split
        · decide
        · decide
theorem ev_intc {X : Cx} {e : Expr} {ρ ρ1 : Rho} {a b : Int} (h : a = b) (he : Ev X e ρ (.v (.int a)) ρ1) : Ev X e ρ (.v (.int b)) ρ1 := h ▸ he
def sgD (cs : List Nat) : List D := cs.map fun c => D.str (chr c)
structure MidF (cs : List Nat) (n i : Int) (S : List Nat) (k : Nat) (F : List Arw) : Prop where
  ok : ∀ a ∈ F, 0 ≤ a.1 ∧ a.1 < i + 1 ∧ (∃ c ∈ cs, a.2.1 = chr c) ∧ 0 ≤ a.2.2.1 ∧ a.2.2.1 ≤ 9 ∧ 0 ≤ a.2.2.2 ∧ a.2.2.2 < n
  tw : (F.map fun a => (a.1, a.2.1)).Nodup
  old : ∀ j : Int, 0 ≤ j → j < i → ∃ a ∈ F, a.1 = j
  cur : ∀ a ∈ F, a.1 = i → ∃ c ∈ S.take k, a.2.1 = chr c
  now : 1 ≤ k → ∃ a ∈ F, a.1 = i
theorem MidF.start {cs : List Nat} {n i : Int} {S : List Nat} {F : List Arw} (h : FoundOk cs n i F) : MidF cs n i S 0 F :=
  ⟨fun a ha => let ⟨h1, h2, h3⟩ := h.ok a ha; ⟨h1, by omega, h3⟩, h.tw, h.all, fun a ha e => by have := (h.ok a ha).2.1; omega, fun h => absurd h (by decide)⟩
theorem MidF.step {cs : List Nat} {n i : Int} {S : List Nat} {k : Nat} {F : List Arw} {c : Nat} {p t : Int} (h : MidF cs n i S k F) (nd : S.Nodup) (hk : k < S.length) (hc : S.getD k 0 = c) (hcs : c ∈ cs) (i0 : 0 ≤ i) (p0 : 0 ≤ p) (p1 : p ≤ 9) (t0 : 0 ≤ t) (t1 : t < n) : MidF cs n i S (k + 1) (F ++ [(i, chr c, p, t)]) := by
  have hck : S[k] = c := by rw [← hc]; simp [List.getD_eq_getElem?_getD, hk]
  have htk : S.take (k + 1) = S.take k ++ [c] := by rw [List.take_succ_eq_append_getElem hk, hck]
  have hnot : c ∉ S.take k := fun z => by
    have nd2 : (S.take (k + 1)).Nodup := nd.sublist (List.take_sublist _ _)
    rw [htk] at nd2
    exact (List.nodup_append.mp nd2).2.2 c z c (by simp) rfl
  refine ⟨fun a ha => ?_, ?_, fun j h0 h1 => ?_, fun a ha e => ?_, fun _ => ⟨(i, chr c, p, t), by simp, rfl⟩⟩
  · rcases List.mem_append.mp ha with z | z
    · exact h.ok a z
    · simp at z; subst z
      exact ⟨i0, by dsimp only; omega, ⟨c, hcs, rfl⟩, p0, p1, t0, t1⟩
  · rw [List.map_append]
    refine List.nodup_append.mpr ⟨h.tw, by simp, fun x hx y hy e => ?_⟩
    obtain ⟨b, hb, rfl⟩ := List.mem_map.mp hx
    simp at hy
    subst hy
    simp only [Prod.mk.injEq] at e
    obtain ⟨c', hc', e'⟩ := h.cur b hb e.1
    have : c = c' := chr_inj (e.2.symm.trans e')
    subst this
    exact hnot hc'
  · obtain ⟨a, ha, e⟩ := h.old j h0 h1
    exact ⟨a, List.mem_append_left _ ha, e⟩
  · rw [htk]
    rcases List.mem_append.mp ha with z | z
    · obtain ⟨c', hc', e'⟩ := h.cur a z e
      exact ⟨c', List.mem_append_left _ hc', e'⟩
    · simp at z; subst z
      exact ⟨c, by simp, rfl⟩
theorem MidF.done {cs : List Nat} {n i : Int} {S : List Nat} {F : List Arw} (h : MidF cs n i S S.length F) (hne : S ≠ []) : FoundOk cs n (i + 1) F := by
  refine ⟨h.ok, h.tw, fun j h0 h1 => ?_⟩
  by_cases e : j = i
  · subst e; exact h.now (List.length_pos_iff.mpr hne)
  · exact h.old j h0 (by omega)
def R_told : Pr := fun ts Q _ => ∃ (q : Addr) (p : Pl) (few : Int), ts = [.at_ q (plT p), .v (.int few)] ∧ 1 ≤ few ∧ few ≤ 12 ∧ p.cs.length ≤ 63 ∧ ∀ n as p', Good n as → p'.cs.length ≤ 63 → Q (.v (toldD n as)) [.at_ q (plT p'), .v (.int few)]
section
variable {P : Program} {w : World} {K : PySem.W.Frag} {mg : Str → Option Value} {base : Heap}
theorem fn_told {f : Addr} {fd : FuncData} (F : Fun K "_law_told" "_law_told" st_told f fd) (hm : mg "_law_told" = some (.ref f)) (hb : Binds K fd ["pool", "few"] []) (G : Bl mg) (Fd : Fn P w K mg base 1 "_law_draw" R_draw) (Fs : Fn P w K mg base 2 "_law_signs" R_signs) (Fm : Fn P w K mg base 2 "_law_mild" R_mild) : Fn P w K mg base 3 "_law_told" R_told := by
  refine fn_m F sc_told hm hb ?_ (by decide) ?_
  · rintro ts Qt Qx ⟨q, p, m, rfl, _⟩; exact ⟨q, plT p, [.int m], rfl, rfl⟩
  · rintro cdv A outer s_0 H_0 E q u ds Qt Qx hr ⟨q', p, few, e, hf1, hf2, hlen, h⟩
    have g := gd_of sc_told hr
    rw [List.cons.injEq, T.at_.injEq] at e
    obtain ⟨⟨rfl, rfl⟩, e⟩ := e
    obtain rfl : ds = [.int few] := v_inj e
    have hr1 : Room 1 (cxD P w K mg base ["pool", "few", "kind", "places", "signs", "pays", "found", "place", "some", "sign"] "_law_told" st_told f cdv A outer s_0 H_0 E).A := hr.mono (by decide)
    -- kind, places
    refine s_cons (s_set 2 g (ev_callMV (u' := plT (drawOf p 5).2) [.int 5] 0 Fd hr1 (eva_cons ev_int eva_nil) rfl (.inr ⟨_, rfl⟩) (fun a => ⟨a, p, 5, rfl, by decide, by decide, hlen, rfl, [.v (.int 5)], rfl⟩) rfl) ?_)
    have k0 := draw_0 p (m := 5) (by decide)
    have k1 := draw_1 p (m := 5) (by decide)
    have l1 := draw_len p 5
    generalize (drawOf p 5).1 = kd at k0 k1 ⊢
    have hl1 : (drawOf p 5).2.cs.length ≤ 63 := by omega
    generalize (drawOf p 5).2 = p1 at hl1 ⊢
    clear l1
    refine s_cons (s_set 3 g (ev_add ev_int (ev_callMV (u' := plT (drawOf p1 few).2) [.int few] 0 Fd hr1 (eva_cons (ev_var 1) eva_nil) rfl (.inr ⟨_, rfl⟩) (fun a => ⟨a, p1, few, rfl, by omega, by omega, hl1, rfl, [.v (.int few)], rfl⟩) rfl)) ?_)
    have n0 := draw_0 p1 (m := few) (by omega)
    have n1 := draw_1 p1 (m := few) (by omega)
    have l1 := draw_len p1 few
    have hl2 : (drawOf p1 few).2.cs.length ≤ 63 := by omega
    obtain ⟨n, hn⟩ : ∃ n, n = 1 + (drawOf p1 few).1 := ⟨_, rfl⟩
    rw [← hn]
    generalize (drawOf p1 few).2 = p2 at hl2 ⊢
    have hn1 : 1 ≤ n := by omega
    have hn2 : n ≤ 12 := by omega
    clear l1 n0 n1 hn
    -- the signs
    obtain ⟨d0, d1⟩ : 0 ≤ (drawOf p2 4).1 ∧ (drawOf p2 4).1 < 4 := ⟨draw_0 p2 (by decide), draw_1 p2 (by decide)⟩
    have l2 := draw_len p2 4
    obtain ⟨m, hm1⟩ : ∃ m : Nat, (m : Int) = 1 + (drawOf p2 4).1 := ⟨(1 + (drawOf p2 4).1).toNat, by omega⟩
    have so : SignsOk (signsOf (drawOf p2 4).2 m).1 := signs_ok _ (by omega) (by omega)
    have sl := signs_len (drawOf p2 4).2 m
    refine s_cons (s_set 4 g (r := .v (.lst (sgD (signsOf (drawOf p2 4).2 m).1))) (ev_frzL (ev_callMV (u' := plT (signsOf (drawOf p2 4).2 m).2) [.int m] 0 Fs (hr.mono (by decide)) (eva_cons (ev_intc hm1.symm (ev_add ev_int (ev_callMV (u' := plT (drawOf p2 4).2) [.int 4] 0 Fd hr1 (eva_cons ev_int eva_nil) rfl (.inr ⟨_, rfl⟩) (fun a => ⟨a, p2, 4, rfl, by decide, by decide, hl2, rfl, [.v (.int 4)], rfl⟩) rfl))) eva_nil) rfl (.inr ⟨_, rfl⟩) (fun a => ⟨a, (drawOf p2 4).2, m, rfl, by omega, by omega, rfl, [.v (.int m)], rfl⟩) rfl)) ?_)
    have hl3 : (signsOf (drawOf p2 4).2 m).2.cs.length ≤ 63 := by omega
    generalize (signsOf (drawOf p2 4).2 m).1 = cs at so ⊢
    generalize (signsOf (drawOf p2 4).2 m).2 = p3 at hl3 ⊢
    clear sl l2
    -- the pays
    refine s_cons (s_set 5 g (r := .v (.lst ((paysOf kd).map D.int))) (ev_ixL (ds := [.lst ([2, 3, 4].map D.int), .lst ([0, 1, 2, 3].map D.int), .lst ([3, 4, 5].map D.int), .lst ([0, 1, 2, 3, 4, 5, 6, 7, 8, 9].map D.int), .lst ([2, 3, 5].map D.int)]) (n := kd) (ev_frzL (ds := [.lst ([2, 3, 4].map D.int), .lst ([0, 1, 2, 3].map D.int), .lst ([3, 4, 5].map D.int), .lst ([0, 1, 2, 3, 4, 5, 6, 7, 8, 9].map D.int), .lst ([2, 3, 5].map D.int)]) (ev_lst (ts := [.v (.lst ([2, 3, 4].map D.int)), .v (.lst ([0, 1, 2, 3].map D.int)), .v (.lst ([3, 4, 5].map D.int)), .v (.lst ([0, 1, 2, 3, 4, 5, 6, 7, 8, 9].map D.int)), .v (.lst ([2, 3, 5].map D.int))])
      (eva_cons (ev_frzL (ev_lst (eva_cons ev_int (eva_cons ev_int (eva_cons ev_int eva_nil))) (by simp))) (eva_cons (ev_frzL (ev_lst (eva_cons ev_int (eva_cons ev_int (eva_cons ev_int (eva_cons ev_int eva_nil)))) (by simp))) (eva_cons (ev_frzL (ev_lst (eva_cons ev_int (eva_cons ev_int (eva_cons ev_int eva_nil))) (by simp))) (eva_cons (ev_frzL (ev_lst (eva_cons ev_int (eva_cons ev_int (eva_cons ev_int (eva_cons ev_int (eva_cons ev_int (eva_cons ev_int (eva_cons ev_int (eva_cons ev_int (eva_cons ev_int (eva_cons ev_int eva_nil)))))))))) (by simp))) (eva_cons (ev_frzL (ev_lst (eva_cons ev_int (eva_cons ev_int (eva_cons ev_int eva_nil))) (by simp))) eva_nil))))) (by simp))) (ev_var 2) ?_) ?_)
    · have : kd = 0 ∨ kd = 1 ∨ kd = 2 ∨ kd = 3 ∨ kd = 4 := by omega
      rcases this with rfl | rfl | rfl | rfl | rfl <;> rfl
    obtain ⟨po, pl1, pl2⟩ := pays_ok kd
    generalize hps : paysOf kd = ps at po pl1 pl2 ⊢
    refine s_cons (s_set 6 g (ev_lst (ts := []) eva_nil (by simp)) ?_)
    refine s_cons (s_for (n := n.toNat) (item := fun i => .int (i : Int)) (fun i ρ => ∃ (p' : Pl) (Fd : List Arw) (x7 x8 : Option T), ρ = [some (.at_ q (plT p')), some (.v (.int few)), some (.v (.int kd)), some (.v (.int n)), some (.v (.lst (sgD cs))), some (.v (.lst (ps.map D.int))), some (.lst ((Fd.map fun a => tK (aK a)).map T.v)), x7, x8, none] ∧ p'.cs.length ≤ 63 ∧ FoundOk cs n i Fd ∧ Fd.length ≤ 4 * i) g
      (ρ1 := [some (.at_ q (plT p3)), some (.v (.int few)), some (.v (.int kd)), some (.v (.int n)), some (.v (.lst (sgD cs))), some (.v (.lst (ps.map D.int))), some (.lst []), none, none, none])
      (it_range1 (nn := n) (eva_cons (ev_var 3) eva_nil) (by omega) (by omega) G.at) ⟨p3, [], none, none, rfl, hl3, ⟨by simp, by simp, fun j h0 h1 => by omega⟩, by simp⟩ ?_ ?_)
    · rintro i ρ hi ⟨p', Fd', x7, x8, rfl, hp', fo, hFl⟩
      refine ⟨[some (.at_ q (plT p')), some (.v (.int few)), some (.v (.int kd)), some (.v (.int n)), some (.v (.lst (sgD cs))), some (.v (.lst (ps.map D.int))), some (.lst ((Fd'.map fun a => tK (aK a)).map T.v)), some (.v (.int i)), x8, none], tg_name 7 g, ?_⟩
      have slen := so.len
      have sne := so.ne
      have sub := some_ok kd p' cs
      refine s_cons (s_setLc (n := cs.length) (accF := (sgD (someOf kd p' cs).1).map T.v) (ρF := [some (.at_ q (plT (someOf kd p' cs).2)), some (.v (.int few)), some (.v (.int kd)), some (.v (.int n)), some (.v (.lst (sgD cs))), some (.v (.lst (ps.map D.int))), some (.lst ((Fd'.map fun a => tK (aK a)).map T.v)), some (.v (.int i)), x8, none]) 8 [("sign", 9)] (fun k ρ acc => ρ = [some (.at_ q (plT (someOf kd p' (cs.take k)).2)), some (.v (.int few)), some (.v (.int kd)), some (.v (.int n)), some (.v (.lst (sgD cs))), some (.v (.lst (ps.map D.int))), some (.lst ((Fd'.map fun a => tK (aK a)).map T.v)), some (.v (.int i)), x8, none] ∧ acc = (sgD (someOf kd p' (cs.take k)).1).map T.v) g
        (Iter.to (it_list (ds := sgD cs) (ev_var 4)) (by simp [sgD]) (item' := fun k => .str (chr (cs.getD k 0))) (fun i hi => by simp [sgD, List.getD_eq_getElem?_getD, hi])) ?_ ?_ ⟨rfl, rfl⟩ ?_ ?_ (by omega) ?_)
      · show BlkOk ["pool", "few", "kind", "places", "signs", "pays", "found", "place", "some", "sign"] (defScope st_told) _ _
        exact ⟨rfl, by decide +kernel, by decide +kernel, by decide +kernel, by decide +kernel⟩
      · intro j hj t h
        simp at hj
        subst hj
        simp at h
      · rintro k ρ acc hk ⟨rfl, rfl⟩
        have ha : cs.take (k + 1) = cs.take k ++ [cs.getD k 0] := by rw [List.take_succ_eq_append_getElem hk]; simp [List.getD_eq_getElem?_getD, hk]
        have hl : (someOf kd p' (cs.take k)).2.cs.length ≤ 63 := by have := (some_ok kd p' (cs.take k)).2; omega
        by_cases hk2 : kd < 2
        · have es : someOf kd p' (cs.take (k + 1)) = ((someOf kd p' (cs.take k)).1 ++ [cs.getD k 0], (someOf kd p' (cs.take k)).2) := by rw [ha, some_snoc, someStep, if_pos hk2]
          refine ⟨[some (.at_ q (plT (someOf kd p' (cs.take k)).2)), some (.v (.int few)), some (.v (.int kd)), some (.v (.int n)), some (.v (.lst (sgD cs))), some (.v (.lst (ps.map D.int))), some (.lst ((Fd'.map fun a => tK (aK a)).map T.v)), some (.v (.int i)), x8, some (.v (.str (chr (cs.getD k 0))))], true, [some (.at_ q (plT (someOf kd p' (cs.take k)).2)), some (.v (.int few)), some (.v (.int kd)), some (.v (.int n)), some (.v (.lst (sgD cs))), some (.v (.lst (ps.map D.int))), some (.lst ((Fd'.map fun a => tK (aK a)).map T.v)), some (.v (.int i)), x8, some (.v (.str (chr (cs.getD k 0))))], fun s' H C cl fp => tgk_name 9 g.nd, fun s' H C cl fp => ts_one (tv_w (tw_or (bo := true) (bo' := true) (tv_cmpv (ev_var 2) ev_int (cv_ltb (by simp [hk2]))) (fun e => by cases e))), fun _ => ⟨.v (.str (chr (cs.getD k 0))), [some (.at_ q (plT (someOf kd p' (cs.take k)).2)), some (.v (.int few)), some (.v (.int kd)), some (.v (.int n)), some (.v (.lst (sgD cs))), some (.v (.lst (ps.map D.int))), some (.lst ((Fd'.map fun a => tK (aK a)).map T.v)), some (.v (.int i)), x8, some (.v (.str (chr (cs.getD k 0))))], fun s' H C cl fp => ev_var 9, ?_, ?_⟩, fun e => by cases e⟩
          · rw [es]; rfl
          · rw [es]; simp [sgD]
        · have es : someOf kd p' (cs.take (k + 1)) = if 0 < (drawOf (someOf kd p' (cs.take k)).2 3).1 then ((someOf kd p' (cs.take k)).1 ++ [cs.getD k 0], (drawOf (someOf kd p' (cs.take k)).2 3).2) else ((someOf kd p' (cs.take k)).1, (drawOf (someOf kd p' (cs.take k)).2 3).2) := by rw [ha, some_snoc, someStep, if_neg hk2]
          refine ⟨[some (.at_ q (plT (someOf kd p' (cs.take k)).2)), some (.v (.int few)), some (.v (.int kd)), some (.v (.int n)), some (.v (.lst (sgD cs))), some (.v (.lst (ps.map D.int))), some (.lst ((Fd'.map fun a => tK (aK a)).map T.v)), some (.v (.int i)), x8, some (.v (.str (chr (cs.getD k 0))))], decide (0 < (drawOf (someOf kd p' (cs.take k)).2 3).1), [some (.at_ q (plT (drawOf (someOf kd p' (cs.take k)).2 3).2)), some (.v (.int few)), some (.v (.int kd)), some (.v (.int n)), some (.v (.lst (sgD cs))), some (.v (.lst (ps.map D.int))), some (.lst ((Fd'.map fun a => tK (aK a)).map T.v)), some (.v (.int i)), x8, some (.v (.str (chr (cs.getD k 0))))], fun s' H C cl fp => tgk_name 9 g.nd, fun s' H C cl fp => ts_one (tv_w (tw_or (bo := false) (bo' := decide (0 < (drawOf (someOf kd p' (cs.take k)).2 3).1)) (tv_cmpv (ev_var 2) ev_int (cv_ltb (by simp [hk2]))) (fun _ => tw_or1 (tv_cmpv (ev_callMV (u' := plT (drawOf (someOf kd p' (cs.take k)).2 3).2) [.int 3] 0 Fd hr1 (eva_cons ev_int eva_nil) rfl (.inr ⟨_, rfl⟩) (fun a => ⟨a, _, 3, rfl, by decide, by decide, hl, rfl, [.v (.int 3)], rfl⟩) rfl) ev_int cv_gt)) (fun e => by cases e))), fun hb => ⟨.v (.str (chr (cs.getD k 0))), [some (.at_ q (plT (drawOf (someOf kd p' (cs.take k)).2 3).2)), some (.v (.int few)), some (.v (.int kd)), some (.v (.int n)), some (.v (.lst (sgD cs))), some (.v (.lst (ps.map D.int))), some (.lst ((Fd'.map fun a => tK (aK a)).map T.v)), some (.v (.int i)), x8, some (.v (.str (chr (cs.getD k 0))))], fun s' H C cl fp => ev_var 9, ?_, ?_⟩, fun hb => ⟨?_, ?_⟩⟩
          · rw [es, if_pos (by simpa using hb)]; rfl
          · rw [es, if_pos (by simpa using hb)]; simp [sgD]
          · rw [es, if_neg (by simpa using hb)]; rfl
          · rw [es, if_neg (by simpa using hb)]
      · rintro ρ acc ⟨rfl, rfl⟩
        rw [List.take_length]
        exact ⟨rfl, rfl⟩
      · obtain ⟨sb, sl⟩ := sub
        generalize (someOf kd p' cs).1 = S0 at sb ⊢
        have hp4 : (someOf kd p' cs).2.cs.length ≤ 63 := by omega
        generalize (someOf kd p' cs).2 = p4 at hp4 ⊢
        have lS0 := sb.length_le
        refine s_cons (s_ifJ (bo := decide ((((sgD S0).map T.v).length : Int) = 0)) (fun ρ => ∃ (S : List Nat) (p5 : Pl), ρ = [some (.at_ q (plT p5)), some (.v (.int few)), some (.v (.int kd)), some (.v (.int n)), some (.v (.lst (sgD cs))), some (.v (.lst (ps.map D.int))), some (.lst ((Fd'.map fun a => tK (aK a)).map T.v)), some (.v (.int i)), some (.lst ((sgD S).map T.v)), none] ∧ S.Nodup ∧ (∀ c ∈ S, c ∈ cs) ∧ S ≠ [] ∧ S.length ≤ 4 ∧ p5.cs.length ≤ 63) (tv_cmpv (ev_lenO 8 rfl (.inl rfl) G.at) ev_int cv_eqI) (fun h0 => ?_) (fun h0 => ?_) ?_)
        · have cl : 1 ≤ cs.length := List.length_pos_iff.mpr sne
          have e0 := draw_0 p4 (m := cs.length) (by omega)
          have e1 := draw_1 p4 (m := cs.length) (by omega)
          have l4 := draw_len p4 cs.length
          obtain ⟨j, hj⟩ : ∃ j : Nat, (drawOf p4 cs.length).1 = (j : Int) := ⟨(drawOf p4 cs.length).1.toNat, by omega⟩
          have hjl : j < cs.length := by omega
          refine s_cons (s_set 8 g (ev_lst (ts := [.v (.str (chr cs[j]))]) (eva_cons (ev_ixL (ds := sgD cs) (n := (drawOf p4 cs.length).1) (d := .str (chr cs[j])) (ev_var 4) (ev_callMV (u' := plT (drawOf p4 cs.length).2) [.int cs.length] 0 Fd hr1 (eva_cons (ev_len (n := cs.length) (eva_cons (ev_var 4) eva_nil) (by rw [T.d_v]; simp [D.len, sgD]) (by omega) G.at) eva_nil) rfl (.inr ⟨_, rfl⟩) (fun a => ⟨a, p4, cs.length, rfl, by omega, by omega, hp4, rfl, [.v (.int cs.length)], rfl⟩) rfl) ?_) eva_nil) (by simp)) (s_nil ⟨[cs[j]], (drawOf p4 cs.length).2, rfl, by simp, by simp, by simp, by simp, by omega⟩))
          rw [hj]
          exact at_nat (by simp [sgD, hjl])
        · have hne : S0 ≠ [] := fun z => by rw [z] at h0; simp [sgD] at h0
          exact s_nil ⟨S0, p4, rfl, sb.nodup so.nd, fun c hc => sb.subset hc, hne, by omega, hp4⟩
        · rintro ρ ⟨S, p5, rfl, hnd, hsub, hne, hS4, hp5⟩
          refine s_cons (s_for (n := S.length) (item := fun k => .str (chr (S.getD k 0))) (fun k ρ => ∃ (p6 : Pl) (F2 : List Arw) (x9 : Option T), ρ = [some (.at_ q (plT p6)), some (.v (.int few)), some (.v (.int kd)), some (.v (.int n)), some (.v (.lst (sgD cs))), some (.v (.lst (ps.map D.int))), some (.lst ((F2.map fun a => tK (aK a)).map T.v)), some (.v (.int i)), some (.v (.lst (sgD S))), x9] ∧ p6.cs.length ≤ 63 ∧ F2.length ≤ 4 * i + k ∧ MidF cs n i S k F2) g
            (ρ1 := [some (.at_ q (plT p5)), some (.v (.int few)), some (.v (.int kd)), some (.v (.int n)), some (.v (.lst (sgD cs))), some (.v (.lst (ps.map D.int))), some (.lst ((Fd'.map fun a => tK (aK a)).map T.v)), some (.v (.int i)), some (.v (.lst (sgD S))), none])
            (Iter.to (it_list (ds := sgD S) (ev_varL 8)) (by simp [sgD]) (fun i hi => by simp [sgD, List.getD_eq_getElem?_getD, hi])) ?_ ?_ ?_)
          · exact ⟨p5, Fd', none, rfl, hp5, by omega, .start fo⟩
          · rintro k ρ hk ⟨p6, F2, x9, rfl, hp6, hF2, mf⟩
            obtain ⟨c, hc⟩ : ∃ c, S.getD k 0 = c := ⟨_, rfl⟩
            have hcs : c ∈ cs := hsub c (by rw [← hc]; simp [List.getD_eq_getElem?_getD, hk])
            have e0 := draw_0 p6 (m := ps.length) (by omega)
            have e1 := draw_1 p6 (m := ps.length) (by omega)
            have l6 := draw_len p6 ps.length
            obtain ⟨j, hj⟩ : ∃ j : Nat, (drawOf p6 ps.length).1 = (j : Int) := ⟨(drawOf p6 ps.length).1.toNat, by omega⟩
            have hjl : j < ps.length := by omega
            obtain ⟨py0, py1⟩ := po ps[j] (List.getElem_mem hjl)
            have f0 := draw_0 (drawOf p6 ps.length).2 (m := n) (by omega)
            have f1 := draw_1 (drawOf p6 ps.length).2 (m := n) (by omega)
            have l7 := draw_len (drawOf p6 ps.length).2 n
            rw [hc]
            refine ⟨[some (.at_ q (plT p6)), some (.v (.int few)), some (.v (.int kd)), some (.v (.int n)), some (.v (.lst (sgD cs))), some (.v (.lst (ps.map D.int))), some (.lst ((F2.map fun a => tK (aK a)).map T.v)), some (.v (.int i)), some (.v (.lst (sgD S))), some (.v (.str (chr c)))], tg_name 9 g, ?_⟩
            refine s_cons (s_append (ts := (F2.map fun a => tK (aK a)).map T.v) 6 (r := .v (tK (aK (i, chr c, ps[j], (drawOf (drawOf p6 ps.length).2 n).1)))) (ρ1 := [some (.at_ q (plT (drawOf (drawOf p6 ps.length).2 n).2)), some (.v (.int few)), some (.v (.int kd)), some (.v (.int n)), some (.v (.lst (sgD cs))), some (.v (.lst (ps.map D.int))), some (.lst ((F2.map fun a => tK (aK a)).map T.v)), some (.v (.int i)), some (.v (.lst (sgD S))), some (.v (.str (chr c)))])
              (ev_tup (ds := [.int i, .str (chr c), .int ps[j], .int (drawOf (drawOf p6 ps.length).2 n).1]) (eva_cons (ev_var 7) (eva_cons (ev_var 9) (eva_cons (ev_ixL (ds := ps.map D.int) (n := (drawOf p6 ps.length).1) (ev_var 5) (ev_callMV (u' := plT (drawOf p6 ps.length).2) [.int ps.length] 0 Fd hr1 (eva_cons (ev_len (n := ps.length) (eva_cons (ev_var 5) eva_nil) (by rw [T.d_v]; simp [D.len]) (by omega) G.at) eva_nil) rfl (.inr ⟨_, rfl⟩) (fun a => ⟨a, p6, ps.length, rfl, by omega, by omega, hp6, rfl, [.v (.int ps.length)], rfl⟩) rfl) ?_)
                (eva_cons (ev_callMV (u' := plT (drawOf (drawOf p6 ps.length).2 n).2) [.int n] 0 Fd hr1 (eva_cons (ev_var 3) eva_nil) rfl (.inr ⟨_, rfl⟩) (fun a => ⟨a, (drawOf p6 ps.length).2, n, rfl, by omega, by omega, by omega, rfl, [.v (.int n)], rfl⟩) rfl) eva_nil)))) (by simp)) rfl (.inl ⟨_, rfl⟩) rfl (.inl rfl) (by simp; omega) (s_nil ⟨(drawOf (drawOf p6 ps.length).2 n).2, F2 ++ [((i : Int), chr c, ps[j], (drawOf (drawOf p6 ps.length).2 n).1)], some (.v (.str (chr c))), ?_, by omega, by simp; omega, mf.step hnd hk hc hcs (by omega) py0 py1 f0 f1⟩))
            · rw [hj]
              exact at_nat (by simp [hjl])
            · rw [List.map_append, List.map_append]; rfl
          · rintro ρ ⟨p6, F2, x9, rfl, hp6, hF2, mf⟩
            refine s_forget 9 (s_nil ⟨p6, F2, some (.v (.int i)), some (.v (.lst (sgD S))), rfl, hp6, mf.done hne, by omega⟩)
    · rintro ρ ⟨p', Fd', x7, x8, rfl, hp', fo, hFl⟩
      have en : ((n.toNat : Nat) : Int) = n := by omega
      rw [en] at fo
      have hF48 : Fd'.length ≤ 48 := by omega
      have good := good_of so hn1 hn2 fo hF48
      have pm := sortA_perm Fd'
      refine s_cons (s_retN' (Φ := fun r ρ1 => (r = .v (toldD n (sortA Fd')) ∨ r = .v (toldD n ((sortA Fd').map mild1))) ∧ ρ1[0]? = some (some (.at_ q (plT p')))) (evn_callV [toldD n (sortA Fd')] Fm (hr.mono (by decide)) (ρ1 := [some (.at_ q (plT p')), some (.v (.int few)), some (.v (.int kd)), some (.v (.int n)), some (.v (.lst (sgD cs))), some (.v (.lst (ps.map D.int))), some (.v (.lst (Fd'.map fun a => tK (aK a)))), x7, x8, none])
        (eva_cons (ev_tup (ds := [.int n, asD (sortA Fd')]) (eva_cons (ev_var 3) (eva_cons (ev_tupleL (xs := (sortA Fd').map fun a => tK (aK a)) (ev_sortedM (ks := Fd'.map aK) (ms := (sortA Fd').map aK) (fun j => j == 1) (eva_cons (ev_varL 6) eva_nil) ?_ (pm.map _) (List.pairwise_map.mpr (sortA_le Fd')) ?_ G.at) ?_ G.at) eva_nil)) (by simp)) eva_nil)
        ⟨n, sortA Fd', rfl, ⟨hn1, hn2, good.l2, fun a ha => ⟨(good.ok a ha).p0, (good.ok a ha).p1⟩⟩, ⟨.inl rfl, rfl⟩, ⟨.inr rfl, rfl⟩⟩) (fun r ρ1 hf => ?_))
      · rw [T.d_v, List.map_map]; rfl
      · intro k hk
        obtain ⟨a, _, rfl⟩ := List.mem_map.mp hk
        refine ⟨fun j y hy => ?_, by simp [aK]⟩
        match j, hy with
        | 0, hy => simp [aK] at hy; subst hy; rfl
        | 1, hy => simp [aK] at hy; subst hy; rfl
        | 2, hy => simp [aK] at hy; subst hy; rfl
        | 3, hy => simp [aK] at hy; subst hy; rfl
        | j + 4, hy => simp [aK] at hy
      · left
        rw [List.map_map, show (sortA Fd').map ((fun k => T.v (tK k)) ∘ aK) = ((sortA Fd').map fun a => tK (aK a)).map T.v by rw [List.map_map]; rfl, lst_vd]
      · obtain ⟨hr', h0⟩ := hf
        refine ⟨plT p', h0, ?_⟩
        rcases hr' with rfl | rfl
        · exact h n _ p' good hp'
        · exact h n _ p' (good_mild good) hp'
end
end Vl
end
section
set_option maxRecDepth 100000
namespace Vl
open PySem L2
abbrev st_track : Stmt := topS 32
abbrev st_steps : Stmt := topS 33
theorem sc_track : FnScope ["told"] ["told"] (defScope st_track) := ⟨rfl, rfl, rfl, by decide +kernel, rfl, by decide +kernel, by decide +kernel⟩
theorem sc_steps : FnScope ["told", "place", "edge"] ["told", "place"] (defScope st_steps) := ⟨rfl, rfl, rfl, by decide +kernel, rfl, by decide +kernel, by decide +kernel⟩
def R_ltrack (C : Addr) : Pr := fun ts Q _ => ∃ n as, ts = [.v (toldD n as)] ∧ Good n as ∧ Q (trT C n as) ts
def edK (a : Arw) : List Key := [.inr a.2.1, .inl a.2.2.1, .inl a.2.2.2]
def stD (as : List Arw) (p : Int) : List D := (stepsOf as p).map fun a => tK (edK a)
def R_steps : Pr := fun ts Q _ => ∃ n as p, ts = [.v (toldD n as), .v (.int p)] ∧ as.length ≤ 60 ∧ Q (.lst ((stD as p).map T.v)) ts
section
variable {P : Program} {w : World} {K : PySem.W.Frag} {mg : Str → Option Value} {base : Heap}
theorem fn_ltrack {f C : Addr} {fd : FuncData} (F : Fun K "_law_track" "_law_track" st_track f fd) (hm : mg "_law_track" = some (.ref f)) (hb : Binds K fd ["told"] []) (Ct : Cn P w K mg base 6 "Track" C (R_track C)) : Fn P w K mg base 8 "_law_track" (R_ltrack C) := by
  refine fn_v F sc_track hm hb ?_ (by decide) ?_
  · rintro ts Qt Qx ⟨n, as, rfl, _⟩; exact ⟨[toldD n as], rfl, rfl⟩
  · rintro cdv A outer s_0 H_0 E ds Qt Qx hr ⟨n, as, e, ok, h⟩
    have g := gd_of sc_track hr
    obtain rfl : ds = [toldD n as] := v_inj e
    exact s_cons (s_ret (ev_makeV (u' := trT C n as) [.int n, asD as] Ct hr (eva_cons (ev_ixT (ds := [.int n, asD as]) (ev_var 0) ev_int rfl) (eva_cons (ev_ixT (ds := [.int n, asD as]) (ev_var 0) ev_int rfl) eva_nil)) (fun a => ⟨a, n, as, rfl, ok, rfl, [.v (.int n), .v (asD as)], rfl⟩)) h)
theorem fn_steps {f : Addr} {fd : FuncData} (F : Fun K "_law_steps" "_law_steps" st_steps f fd) (hm : mg "_law_steps" = some (.ref f)) (hb : Binds K fd ["told", "place"] []) (G : Bl mg) : Fn P w K mg base 1 "_law_steps" R_steps := by
  refine fn_v F sc_steps hm hb ?_ (by decide) ?_
  · rintro ts Qt Qx ⟨n, as, p, rfl, _⟩; exact ⟨[toldD n as, .int p], rfl, rfl⟩
  · rintro cdv A outer s_0 H_0 E ds Qt Qx hr ⟨n, as, p, e, hl, h⟩
    have g := gd_of sc_steps hr
    obtain rfl : ds = [toldD n as, .int p] := v_inj e
    refine s_cons (s_ret (ρ1 := [some (.v (toldD n as)), some (.v (.int p)), none]) ?_ h)
    refine ev_lc (n := as.length) (accF := (stD as p).map T.v) [("edge", 2)] (fun k ρ acc => ρ = [some (.v (toldD n as)), some (.v (.int p)), none] ∧ acc = (stD (as.take k) p).map T.v) g
      (Iter.to (it_tup (ds := as.map fun a => tK (aK a)) (ev_ixT (ds := [.int n, asD as]) (ev_var 0) ev_int rfl)) (by simp) (item' := fun k => tK (aK (as.getD k default))) (fun i hi => by simp [List.getD_eq_getElem?_getD, hi])) ?_ ?_ ⟨rfl, rfl⟩ ?_ ?_ (by omega)
    · show BlkOk ["told", "place", "edge"] (defScope st_steps) _ _
      exact ⟨rfl, by decide +kernel, by decide +kernel, by decide +kernel, by decide +kernel⟩
    · intro j hj t h
      simp at hj
      subst hj
      simp at h
    · rintro k ρ acc hk ⟨rfl, rfl⟩
      have hs := steps_take hk p
      have ea : as.getD k default = as[k] := by simp [List.getD_eq_getElem?_getD, hk]
      rw [← ea] at hs
      obtain ⟨a, hA⟩ : ∃ a, as.getD k default = a := ⟨_, rfl⟩
      rw [hA] at hs
      refine ⟨[some (.v (toldD n as)), some (.v (.int p)), some (.v (tK (aK a)))], decide (a.1 = p), [some (.v (toldD n as)), some (.v (.int p)), some (.v (tK (aK a)))], fun s' H C cl fp => by simp only [hA]; exact tgk_name 2 g.nd, fun s' H C cl fp => ts_one (tv_cmpv (ev_ixT (ds := (aK a).map kD) (d := .int a.1) (n := 0) (ev_var 2) ev_int rfl) (ev_var 1) cv_eqI),
        fun hb => ⟨.v (tK (edK a)), [some (.v (toldD n as)), some (.v (.int p)), some (.v (tK (aK a)))], fun s' H C cl fp => ev_slT (ds := (aK a).map kD) (l := some 1) (u := none) (ev_var 2) (evo_some ev_int) evo_none, rfl, ?_⟩, fun hb => ⟨rfl, ?_⟩⟩
      · unfold stD
        rw [hs, if_pos (by simpa using hb)]
        simp
      · unfold stD
        rw [hs, if_neg (by simpa using hb)]
    · rintro ρ acc ⟨rfl, rfl⟩
      rw [List.take_length]
      exact ⟨rfl, rfl⟩
end
end Vl
end
section
set_option maxRecDepth 100000
namespace Vl
open PySem L2
abbrev st_lreached : Stmt := topS 34
theorem sc_lreached : FnScope ["told", "place", "found", "at", "goal", "step"] ["told", "place"] (defScope st_lreached) := ⟨rfl, rfl, rfl, by decide +kernel, rfl, by decide +kernel, by decide +kernel⟩
def R_lreached : Pr := fun ts Q _ => ∃ (n : Int) (as : List Arw) (p : Int) (ms : List Int), ts = [.v (toldD n as), .v (.int p)] ∧ Good n as ∧ 0 ≤ p ∧ p < n ∧ ms.Pairwise (· < ·) ∧ (∀ x, x ∈ ms ↔ Reach as p x) ∧ Q (.lst ((ms.map D.int).map T.v)) ts
def upTo (n : Int) : List Int := (List.range n.toNat).map fun i : Nat => (i : Int)
theorem upTo_lt (n : Int) : (upTo n).Pairwise (· < ·) := by
  unfold upTo
  rw [List.pairwise_map]
  exact List.pairwise_lt_range.imp fun {a b} h => by omega
theorem mem_upTo {n x : Int} : x ∈ upTo n ↔ 0 ≤ x ∧ x < n := by
  unfold upTo
  rw [List.mem_map]
  constructor
  · rintro ⟨i, hi, rfl⟩
    simp at hi
    omega
  · rintro ⟨h0, h1⟩
    exact ⟨x.toNat, by simp; omega, by omega⟩
theorem ev_sortedIv {X : Cx} {e : Expr} {ρ ρ1 : Rho} {r : T} {p pos : Pos} {ns ms : List Int} (ha : EvA X [e] ρ [r] ρ1) (hr : r.d = .lst (ns.map D.int)) (h1 : ms.Perm ns) (h2 : ms.Pairwise (· ≤ ·)) (hc : X.calm = true) (hm : X.mg "sorted" = none) (hg : Gl X "sorted" := by rfl) (he : starEach [e] X.env = (false, eval e X.env) :: starEach [] X.env := by rfl) : Ev X (.Call (.Name "sorted" p) [e] [] pos) ρ (.lst ((ms.map D.int).map T.v)) ρ1 := by
  have := ev_sortedI (p := p) (pos := pos) ha hr h1 h2 hc hm hg he
  simpa [List.map_map, Function.comp_def] using this
section
variable {P : Program} {w : World} {K : PySem.W.Frag} {mg : Str → Option Value} {base : Heap}
theorem fn_lreached {f : Addr} {fd : FuncData} (F : Fun K "_law_reached" "_law_reached" st_lreached f fd) (hm : mg "_law_reached" = some (.ref f)) (hb : Binds K fd ["told", "place"] []) (G : Bl mg) (Fs : Fn P w K mg base 1 "_law_steps" R_steps) : Fn P w K mg base 2 "_law_reached" R_lreached := by
  refine fn_v F sc_lreached hm hb ?_ (by decide) ?_
  · rintro ts Qt Qx ⟨n, as, p, ms, rfl, _⟩; exact ⟨[toldD n as, .int p], rfl, rfl⟩
  · rintro cdv A outer s_0 H_0 E ds Qt Qx hr ⟨n, as, p, ms, e, ok, h0, h1, up, hms, q⟩
    have g := gd_of sc_lreached hr
    obtain rfl : ds = [toldD n as, .int p] := v_inj e
    refine s_cons (s_set 2 g (ev_lst (ts := [.v (.int p)]) (eva_cons (ev_var 1) eva_nil) (by simp)) ?_)
    refine s_cons (s_for (n := 60) (item := fun i => .int (i : Int)) (fun i ρ => ∃ (Fl : List Int) (x3 : Option T), ρ = [some (.v (toldD n as)), some (.v (.int p)), some (.lst ((Fl.map D.int).map T.v)), x3, none, none] ∧ Fl.Nodup ∧ p ∈ Fl ∧ (∀ x ∈ Fl, Reach as p x) ∧ ∀ k x, k < i → Fl[k]? = some x → ∀ a ∈ as, a.1 = x → a.2.2.2 ∈ Fl) g
      (ρ1 := [some (.v (toldD n as)), some (.v (.int p)), some (.lst [.v (.int p)]), none, none, none])
      (Iter.to (it_range1 (nn := 60) (eva_cons ev_int eva_nil) (by decide) (by decide) G.at) rfl (fun _ _ => rfl)) ⟨[p], none, rfl, by simp, by simp, fun x hx => by simp at hx; subst hx; exact .start, fun k x hk => by omega⟩ ?_ ?_)
    · rintro i ρ hi ⟨Fl, x3, rfl, nd, hp, re, cl⟩
      have l12 := Lev.len ok h0 h1 nd re
      refine ⟨[some (.v (toldD n as)), some (.v (.int p)), some (.lst ((Fl.map D.int).map T.v)), some (.v (.int i)), none, none], tg_name 3 g, ?_⟩
      refine s_cons (s_if (bo := decide ((i : Int) < (((Fl.map D.int).map T.v).length : Int))) (tv_cmpv (ev_var 3) (ev_lenO 2 rfl (.inl rfl) G.at) cv_lt) (fun hlt => ?_) fun hge => ?_)
      · have hil : i < Fl.length := by simpa using hlt
        obtain ⟨x, hx⟩ : ∃ x, Fl[i]? = some x := ⟨_, List.getElem?_eq_getElem hil⟩
        have hxin : x ∈ Fl := List.mem_of_getElem? hx
        have rx := re x hxin
        have key : ∀ b ∈ stepsOf as x, b ∈ as ∧ b.1 = x := fun b hb => by
          unfold stepsOf at hb
          rw [List.mem_filter] at hb
          exact ⟨hb.1, by simpa using hb.2⟩
        obtain ⟨tg, htg⟩ : ∃ tg : List Int, tg = (stepsOf as x).map fun a => a.2.2.2 := ⟨_, rfl⟩
        have tgr : ∀ y ∈ tg, Reach as p y := fun y hy => by
          rw [htg] at hy
          obtain ⟨b, hb, rfl⟩ := List.mem_map.mp hy
          obtain ⟨hb1, hb2⟩ := key b hb
          exact .step rx hb1 hb2
        obtain ⟨us, hus⟩ : ∃ us : List Int, us = (upTo n).filter fun y => decide (y ∈ tg) := ⟨_, rfl⟩
        have us_lt : us.Pairwise (· < ·) := by rw [hus]; exact List.Pairwise.filter _ (upTo_lt n)
        have us_mem : ∀ y, y ∈ us ↔ y ∈ tg := fun y => by
          rw [hus, List.mem_filter, mem_upTo]
          constructor
          · rintro ⟨_, z⟩; simpa using z
          · intro z
            exact ⟨(tgr y z).range ok h0 h1, by simpa using z⟩
        have us12 : us.length ≤ 12 := by
          have : us.length ≤ (upTo n).length := by rw [hus]; exact List.length_filter_le _ _
          have e : (upTo n).length = n.toNat := by simp [upTo]
          have := ok.n2
          omega
        have st60 : (stepsOf as x).length ≤ as.length := List.length_filter_le _ _
        have l60 := ok.l2
        refine s_cons (s_set 2 g (r := .lst ((Fl.map D.int).map T.v ++ ((us.filter fun y => !decide (y ∈ Fl)).map D.int).map T.v)) (ρ1 := [some (.v (toldD n as)), some (.v (.int p)), some (.lst ((Fl.map D.int).map T.v)), some (.v (.int i)), none, none])
          (ev_catO (ds := Fl.map D.int) 2 rfl ?_ ?_) ?_)
        · refine ev_lc (n := us.length) (accF := ((us.filter fun y => !decide (y ∈ Fl)).map D.int).map T.v) [("goal", 4)] (fun k ρ acc => ρ = [some (.v (toldD n as)), some (.v (.int p)), some (.lst ((Fl.map D.int).map T.v)), some (.v (.int i)), none, none] ∧ acc = (((us.take k).filter fun y => !decide (y ∈ Fl)).map D.int).map T.v) g
            (ρ1 := [some (.v (toldD n as)), some (.v (.int p)), some (.lst ((Fl.map D.int).map T.v)), some (.v (.int i)), none, none])
            (Iter.to (it_list (ds := us.map D.int) (ev_frzL (ev_sortedSet (ns := tg) (ms := us) g (ev_frzL ?_) (by rw [htg, List.length_map]; omega) us_lt us_mem G.at G.at))) (by simp) (item' := fun k => .int (us.getD k 0)) (fun i hi => by simp [List.getD_eq_getElem?_getD, hi])) ?_ ?_ ⟨rfl, rfl⟩ ?_ ?_ (by omega)
          · refine ev_lc (n := (stepsOf as x).length) (accF := (tg.map D.int).map T.v) [("step", 5)] (fun k ρ acc => ρ = [some (.v (toldD n as)), some (.v (.int p)), some (.lst ((Fl.map D.int).map T.v)), some (.v (.int i)), none, none] ∧ acc = ((((stepsOf as x).take k).map fun a => a.2.2.2).map D.int).map T.v) g
              (ρ1 := [some (.v (toldD n as)), some (.v (.int p)), some (.lst ((Fl.map D.int).map T.v)), some (.v (.int i)), none, none])
              (Iter.to (it_list (ds := stD as x) (ev_frzL (ev_callV [toldD n as, .int x] Fs (hr.mono (by decide)) (eva_cons (ev_var 0) (eva_cons (ev_ixO (d := .int x) 2 rfl (.inl rfl) (ev_var 3) (at_nat (by simp [hx]))) eva_nil)) ⟨n, as, x, rfl, l60, rfl⟩))) (by simp [stD]) (item' := fun k => tK (edK ((stepsOf as x).getD k default))) (fun i hi => by simp [stD, List.getD_eq_getElem?_getD, hi])) ?_ ?_ ⟨rfl, rfl⟩ ?_ ?_ (by omega)
            · show BlkOk ["told", "place", "found", "at", "goal", "step"] (defScope st_lreached) _ _
              exact ⟨rfl, by decide +kernel, by decide +kernel, by decide +kernel, by decide +kernel⟩
            · intro j hj t h
              simp at hj
              subst hj
              simp at h
            · rintro k ρ acc hk ⟨rfl, rfl⟩
              have ha : (stepsOf as x).take (k + 1) = (stepsOf as x).take k ++ [(stepsOf as x).getD k default] := by rw [List.take_succ_eq_append_getElem hk]; simp [List.getD_eq_getElem?_getD, hk]
              obtain ⟨b, hb⟩ : ∃ b, (stepsOf as x).getD k default = b := ⟨_, rfl⟩
              rw [hb] at ha
              refine ⟨[some (.v (toldD n as)), some (.v (.int p)), some (.lst ((Fl.map D.int).map T.v)), some (.v (.int i)), none, some (.v (tK (edK b)))], true, [some (.v (toldD n as)), some (.v (.int p)), some (.lst ((Fl.map D.int).map T.v)), some (.v (.int i)), none, some (.v (tK (edK b)))],
                fun s' H C cl fp => by simp only [hb]; exact tgk_name 5 g.nd, fun s' H C cl fp => ts_nil, fun _ => ⟨.v (.int b.2.2.2), [some (.v (toldD n as)), some (.v (.int p)), some (.lst ((Fl.map D.int).map T.v)), some (.v (.int i)), none, some (.v (tK (edK b)))], fun s' H C cl fp => ev_ixT (ds := (edK b).map kD) (n := 2) (ev_var 5) ev_int rfl, rfl, ?_⟩, fun e => by cases e⟩
              rw [ha]
              simp
            · rintro ρ acc ⟨rfl, rfl⟩
              rw [List.take_length, ← htg]
              exact ⟨rfl, rfl⟩
          · show BlkOk ["told", "place", "found", "at", "goal", "step"] (defScope st_lreached) _ _
            exact ⟨rfl, by decide +kernel, by decide +kernel, by decide +kernel, by decide +kernel⟩
          · intro j hj t h
            simp at hj
            subst hj
            simp at h
          · rintro k ρ acc hk ⟨rfl, rfl⟩
            have ha : us.take (k + 1) = us.take k ++ [us.getD k 0] := by rw [List.take_succ_eq_append_getElem hk]; simp [List.getD_eq_getElem?_getD, hk]
            refine ⟨[some (.v (toldD n as)), some (.v (.int p)), some (.lst ((Fl.map D.int).map T.v)), some (.v (.int i)), some (.v (.int (us.getD k 0))), none], !decide (us.getD k 0 ∈ Fl), [some (.v (toldD n as)), some (.v (.int p)), some (.lst ((Fl.map D.int).map T.v)), some (.v (.int i)), some (.v (.int (us.getD k 0))), none],
              fun s' H C cl fp => tgk_name 4 g.nd, fun s' H C cl fp => ts_one (tv_notInO 2 (ev_var 4) rfl), fun hbo => ⟨.v (.int (us.getD k 0)), [some (.v (toldD n as)), some (.v (.int p)), some (.lst ((Fl.map D.int).map T.v)), some (.v (.int i)), some (.v (.int (us.getD k 0))), none], fun s' H C cl fp => ev_var 4, rfl, ?_⟩, fun hbo => ⟨rfl, ?_⟩⟩
            · rw [ha, List.filter_append, List.filter_cons, if_pos hbo]; simp
            · rw [ha, List.filter_append, List.filter_cons, if_neg (by rw [hbo]; decide)]; simp
          · rintro ρ acc ⟨rfl, rfl⟩
            rw [List.take_length]
            exact ⟨rfl, rfl⟩
        · have : (us.filter fun y => !decide (y ∈ Fl)).length ≤ us.length := List.length_filter_le _ _
          simp; omega
        · refine s_nil (s_nil ⟨Fl ++ us.filter fun y => !decide (y ∈ Fl), some (.v (.int i)), ?_, ?_, by simp [hp], fun y hy => ?_, fun k y hk hy a ha e => ?_⟩)
          · rw [List.map_append, List.map_append]; rfl
          · refine List.nodup_append.mpr ⟨nd, List.Nodup.sublist (List.filter_sublist) (us_lt.imp fun {a b} h e => by omega), fun y hy z hz e => ?_⟩
            rw [List.mem_filter] at hz
            subst e
            simp [hy] at hz
          · rcases List.mem_append.mp hy with z | z
            · exact re y z
            · rw [List.mem_filter] at z
              exact tgr y ((us_mem y).1 z.1)
          · have hkl : k < Fl.length := by omega
            rw [List.getElem?_append_left hkl] at hy
            by_cases hki : k = i
            · subst hki
              rw [hx] at hy
              cases hy
              have : a.2.2.2 ∈ tg := by
                rw [htg]
                refine List.mem_map.mpr ⟨a, ?_, rfl⟩
                unfold stepsOf
                rw [List.mem_filter]
                exact ⟨ha, by simpa using e⟩
              have hu := (us_mem _).2 this
              by_cases z : a.2.2.2 ∈ Fl
              · exact List.mem_append_left _ z
              · exact List.mem_append_right _ (List.mem_filter.mpr ⟨hu, by simpa using z⟩)
            · exact List.mem_append_left _ (cl k y (by omega) hy a ha e)
      · refine s_nil (s_nil ⟨Fl, some (.v (.int i)), rfl, nd, hp, re, fun k x hk hx a ha e => ?_⟩)
        have hkl : k < Fl.length := (List.getElem?_eq_some_iff.mp hx).1
        have : Fl.length ≤ i := by simpa using hge
        exact cl k x (by omega) hx a ha e
    · rintro ρ ⟨Fl, x3, rfl, nd, hp, re, cl⟩
      have l12 := Lev.len ok h0 h1 nd re
      have hall : ∀ x, x ∈ Fl ↔ Reach as p x := fun x => ⟨re x, fun h => by
        induction h with
        | start => exact hp
        | @step y a hy ha e ih =>
          obtain ⟨k, hk, ek⟩ := List.getElem_of_mem ih
          exact cl k y (by omega) (by rw [List.getElem?_eq_getElem hk, ek]) a ha e⟩
      have nd2 : ms.Nodup := up.imp fun {a b} h e => by omega
      have pm : ms.Perm Fl := (List.perm_ext_iff_of_nodup nd2 nd).2 fun x => (hms x).trans (hall x).symm
      refine s_cons (s_ret (r := .lst ((ms.map D.int).map T.v)) (ev_sortedIv (ns := Fl) (ms := ms) (eva_cons (ev_varL 2) eva_nil) (T.d_v _) pm (up.imp fun {a b} h => Int.le_of_lt h) g.calm G.at) q)
end
end Vl
end
section
set_option maxRecDepth 100000
namespace Vl
open PySem L2
abbrev st_law : Stmt := topS 35
theorem sc_law : FnScope ["script", "pool", "turn", "told", "track", "place", "steps", "letter", "pay", "goal", "shown", "step"] ["script"] (defScope st_law) := ⟨rfl, rfl, rfl, by decide +kernel, rfl, by decide +kernel, by decide +kernel⟩
def R_law : Pr := fun ts Q _ => ∃ ns : List Int, ts = [.v (.lst (ns.map D.int))] ∧ ns.length ≤ 100000 ∧ Q (.v (.bl true)) ts
open Classical in
theorem reach_list {n : Int} {as : List Arw} {p : Int} (ok : Good n as) (h0 : 0 ≤ p) (h1 : p < n) : ∃ ms : List Int, ms.Pairwise (· < ·) ∧ ∀ x, x ∈ ms ↔ Reach as p x :=
  ⟨(upTo n).filter fun x => decide (Reach as p x), List.Pairwise.filter _ (upTo_lt n), fun x => by
    rw [List.mem_filter, mem_upTo]
    constructor
    · rintro ⟨_, z⟩; simpa using z
    · intro z; exact ⟨z.range ok h0 h1, by simpa using z⟩⟩
theorem fine_ints (ns : List Int) : (D.tup (ns.map D.int)).fine := by
  have h1 : ∀ l : List Int, D.saneL (l.map D.int) = true := fun l => by induction l with
    | nil => simp [D.saneL]
    | cons x l ih => simp [D.saneL, D.sane, ih]
  have h2 : ∀ l : List Int, D.deepL (l.map D.int) = 0 := fun l => by induction l with
    | nil => simp [D.deepL]
    | cons x l ih => simp [D.deepL, D.deep, ih]
  exact ⟨by rw [D.sane]; exact h1 ns, by rw [D.deep, h2]; decide⟩
theorem cv_neSb {X : Cx} {a b : Str} {bo : Bool} (h : (!decide (a = b)) = bo) : CmpV X .NotEq (.str a) (.str b) bo := h ▸ cv_neS
theorem ev_dEq {X : Cx} {e : Expr} {ρ ρ1 : Rho} {r : T} {d : D} (h : Ev X e ρ r ρ1) (e1 : r.d = d) : Ev X e ρ (.v d) ρ1 := e1 ▸ ev_frz h
section
variable {P : Program} {w : World} {K : PySem.W.Frag} {mg : Str → Option Value} {base : Heap}
theorem fnok_v {x qual : Str} {st : Stmt} {f : Addr} {fd : FuncData} {N ps : List Str} {k : Nat} {R : Pr} (F : Fun K x qual st f fd) (S' : FnScope N ps (defScope st)) 
    (hR : ∀ ts Qt Qx, R ts Qt Qx → ∃ ds : List D, ts = ds.map T.v ∧ ds.length = ps.length) (hN : ps.length ≤ N.length)
    (hbody : ∀ (cdv : Value) (A : Around) (outer : List Env) (s : Shared) (H : Hp) (E : XK) (ds : List D) (Qt : T → List T → Prop) (Qx : Xn → Prop), Room k (cxD P w K mg base N qual st f cdv A outer s H E).A → R (ds.map T.v) Qt Qx →
      S (cxD P w K mg base N qual st f cdv A outer s H E) (defBody st) ((ds.map fun d => some (T.v d)) ++ List.replicate (N.length - ds.length) none) { nx := fun _ => Qt (.v .non) (ds.map T.v), rt := fun r _ => Qt r (ds.map T.v), ex := fun x _ => Qx x }) : FnOk P w K mg base (L2.CX P w) (k + 1) f fd ps (spF K R) := by
  refine F.okX S' (fun vs H Q E h => ?_) (fun cdv A outer s H vs Q E hr h => ?_)
  · obtain ⟨B, F0, ts, Qt, Qx, hl, _, h, _⟩ := h
    obtain ⟨ds, rfl, hd⟩ := hR _ _ _ h
    rw [hl]; simpa using hd
  · obtain ⟨B, F0, ts, Qt, Qx, hl, R0, h, k1, k2⟩ := h
    obtain ⟨ds, rfl, hd⟩ := hR _ _ _ h
    have hl' : vs.length = ds.length := by simpa using hl
    obtain ⟨F', RF⟩ := R0
    have hden : DenL K F' vs ds := by
      obtain ⟨A', _, _, _, _, o, _⟩ := RF
      have o' : OwnS K F' H (vs.map some) (ds.map fun d => some (T.v d)) A' := by simpa [List.map_map, Function.comp_def] using o
      exact (OwnS.allv o').2
    refine ⟨_, pss_u _ _, ?_⟩
    have R1 : Rl K B F' ((ds.map fun d => some (T.v d)) ++ List.replicate (N.length - ds.length) none) (L2.start N vs) H := by
      obtain ⟨A', e0, e1, e2, dm, o, nd, fr⟩ := RF.self
      have o' : OwnS K F' H (vs.map some) (ds.map fun d => some (T.v d)) A' := by simpa [List.map_map, Function.comp_def] using o
      have pad : ∀ n, OwnS K F' H (List.replicate n none) (List.replicate n none) [] := fun n => by
        induction n with
        | zero => exact .nil
        | succ n ih => exact .skip ih
      refine ⟨F', A' ++ [], e0, e1, e2, dm, ?_, by simpa using nd, fun a ha => fr a (by simpa using ha)⟩
      unfold L2.start
      rw [hl']
      exact o'.append (pad _)
    have back : ∀ {r : T} {v : V} {ρ2 : Rho} {σ2 : St} {H2 : Hp}, Rl K B F' (some r :: ρ2) (some v :: σ2) H2 → Rl K B F0 (some r :: (ds.map T.v).map some) (some v :: vs.map some) H2 := fun {r v ρ2 σ2 H2} R2 => by
      have R3 := Rl.takeN (ρ1 := [some r]) (σ1 := [some v]) rfl R2
      exact RF.reL (Rl.tailv hden R3)
    refine hbody cdv A outer s H E ds Qt Qx hr h B F' (L2.start N vs) H _ (fun cls d _ H2 => E cls d H2) (takes_of rfl rfl rfl rfl) R1 ⟨fun ρ2 σ2 H2 q R2 => ?_, fun r ρ2 v σ2 H2 q R2 => ?_, fun _ _ _ q => q.elim, fun _ _ _ q => q.elim, fun x' ρ2 cls d F2 σ2 H2 q R2 hx => ?_⟩
    · exact k1 _ _ _ H2 q (back (R2.pushS fun _ => .non))
    · exact k1 _ _ _ H2 q (back R2)
    · refine k2 x' cls d F2 H2 q ?_ hx
      have R3 := RF.re R2
      obtain ⟨A', e0, e1, e2, dm, o, nd, fr⟩ := R3
      exact ⟨[], e0, e1, e2, dm, .nil, List.nodup_nil, fun a ha => by cases ha⟩
theorem fn_law {f C : Addr} {fd : FuncData} (F : Fun K "law" "law" st_law f fd) (G : Bl mg) (Fp : Fn P w K mg base 1 "_law_pool" R_pool) (Fd : Fn P w K mg base 1 "_law_draw" R_draw) (Ft : Fn P w K mg base 3 "_law_told" R_told) (Fk : Fn P w K mg base 8 "_law_track" (R_ltrack C)) (Fs : Fn P w K mg base 1 "_law_steps" R_steps) (Fr : Fn P w K mg base 2 "_law_reached" R_lreached)
    (Fl : Fn P w K mg base 5 "letters" (R_letters C)) (Fa : Fn P w K mg base 5 "arrow" (R_arrow C)) (Fe : Fn P w K mg base 5 "reached" (R_reached C)) : FnOk P w K mg base (L2.CX P w) 9 f fd ["script"] (spF K R_law) := by
  refine fnok_v F sc_law ?_ (by decide) ?_
  · rintro ts Qt Qx ⟨ns, rfl, _⟩; exact ⟨[.lst (ns.map D.int)], rfl, rfl⟩
  · rintro cdv A outer s_0 H_0 E ds Qt Qx hr ⟨ns, e, hz, q⟩
    have g := gd_of sc_law hr
    obtain rfl : ds = [.lst (ns.map D.int)] := v_inj e
    have pl := pool_len ns
    refine s_cons (s_set 1 g (r := plT (poolOf ns)) (ev_callV [.lst (ns.map D.int)] Fp (hr.mono (by decide)) (eva_cons (ev_var 0) eva_nil) ⟨ns, rfl, hz, rfl⟩) ?_)
    generalize poolOf ns = p0 at pl ⊢
    refine s_cons (s_for (n := 3) (item := fun i => .int (i : Int)) (fun i ρ => ∃ (p : Pl) (x2 x3 x4 x5 x6 x7 x8 x9 x10 : Option T), ρ = [some (.v (.lst (ns.map D.int))), some (plT p), x2, x3, x4, x5, x6, x7, x8, x9, x10, none] ∧ p.cs.length ≤ 63) g
      (ρ1 := [some (.v (.lst (ns.map D.int))), some (plT p0), none, none, none, none, none, none, none, none, none, none])
      (Iter.to (it_range1 (nn := 3) (eva_cons ev_int eva_nil) (by decide) (by decide) G.at) rfl (fun _ _ => rfl)) ⟨p0, _, _, _, _, _, _, _, _, _, rfl, pl⟩ ?_ ?_)
    · rintro i ρ hi ⟨p, x2, x3, x4, x5, x6, x7, x8, x9, x10, rfl, hp⟩
      refine ⟨[some (.v (.lst (ns.map D.int))), some (plT p), some (.v (.int i)), x3, x4, x5, x6, x7, x8, x9, x10, none], tg_name 2 g, ?_⟩
      have l4 := draw_len p 4
      have hp1 : (drawOf p 4).2.cs.length ≤ 63 := by omega
      obtain ⟨zz, hzz⟩ : ∃ zz : Int, zz = if decide ((drawOf p 4).1 = 0) then 12 else 6 := ⟨_, rfl⟩
      have hz6 : zz = 6 ∨ zz = 12 := by rw [hzz]; split; exact .inr rfl; exact .inl rfl
      obtain ⟨few, hfew⟩ : ∃ few : Int, few = if i = 0 then 4 else if i = 1 then 6 else zz := ⟨_, rfl⟩
      have hf1 : 1 ≤ few := by rw [hfew]; split; decide; split; decide; omega
      have hf2 : few ≤ 12 := by rw [hfew]; split; decide; split; decide; omega
      refine s_cons (s_setN (Φ := fun r ρ1 => ∃ n as p', r = .v (toldD n as) ∧ Good n as ∧ p'.cs.length ≤ 63 ∧ ρ1 = [some (.v (.lst (ns.map D.int))), some (plT p'), some (.v (.int i)), x3, x4, x5, x6, x7, x8, x9, x10, none]) 3 g
        (evn_callMV (us := [.v (.int (drawOf p 4).2.sd), .v (.int (drawOf p 4).2.cn), .lst (((drawOf p 4).2.cs.map D.int).map T.v)]) (ρ1 := [some (.v (.lst (ns.map D.int))), some (plT (drawOf p 4).2), some (.v (.int i)), x3, x4, x5, x6, x7, x8, x9, x10, none]) [.int few] 1 (t1 := plT (drawOf p 4).2) (fun r u => ∃ n as p', r = .v (toldD n as) ∧ Good n as ∧ p'.cs.length ≤ 63 ∧ u = plT p') Ft (hr.mono (by decide))
          (eva_cons (ev_ixL (ds := [.int 4, .int 6, .int zz]) (n := i) (ρ1 := [some (.v (.lst (ns.map D.int))), some (plT (drawOf p 4).2), some (.v (.int i)), x3, x4, x5, x6, x7, x8, x9, x10, none]) (ev_frzL (ds := [.int 4, .int 6, .int zz]) (ev_lst (ts := [.v (.int 4), .v (.int 6), .v (.int zz)]) (eva_cons ev_int (eva_cons ev_int (eva_cons (ev_ixL (ds := [.int 6, .int 12]) (n := if decide ((drawOf p 4).1 = 0) then 1 else 0) (ev_frzL (ds := [.int 6, .int 12]) (ev_lst (ts := [.v (.int 6), .v (.int 12)]) (eva_cons ev_int (eva_cons ev_int eva_nil)) (by simp)))
            (ev_intB (eva_cons (ev_cmpv (ev_callMV (u' := plT (drawOf p 4).2) [.int 4] 1 Fd (hr.mono (by decide)) (eva_cons ev_int eva_nil) rfl (.inl rfl) (fun a => ⟨a, p, 4, rfl, by decide, by decide, hp, rfl, [.v (.int 4)], rfl⟩) rfl) ev_int cv_eqI) eva_nil) G.at) ?_) eva_nil))) (by simp))) (ev_var 2) ?_) eva_nil)
          rfl (.inl rfl) (fun a => ⟨a, (drawOf p 4).2, few, rfl, hf1, hf2, hp1, fun n as p' ok hl => ⟨plT p', [.v (.int few)], ⟨n, as, p', rfl, ok, hl, rfl⟩, rfl⟩⟩) (fun r u hh => ?_)) (fun r ρ1 hh => ?_))
      · rw [hzz]
        by_cases h : (drawOf p 4).1 = 0
        · simp only [h, decide_true, if_true]; rfl
        · simp only [h, decide_false, if_false]; rfl
      · rw [hfew]
        have : i = 0 ∨ i = 1 ∨ i = 2 := by omega
        rcases this with rfl | rfl | rfl <;> rfl
      · obtain ⟨n, as, p', rfl, ok, hl, rfl⟩ := hh
        exact ⟨n, as, p', rfl, ok, hl, rfl⟩
      · obtain ⟨n, as, p', rfl, ok, hl, rfl⟩ := hh
        have n1 := ok.n1
        have n2 := ok.n2
        refine s_cons (s_set 4 g (r := .v (trD C n as)) (ev_dEq (ev_callV (r := trT C n as) [toldD n as] Fk (hr.mono (by decide)) (eva_cons (ev_var 3) eva_nil) ⟨n, as, rfl, ok, rfl⟩) (trT_d C n as)) ?_)
        refine s_cons (s_for (n := n.toNat) (item := fun j => .int (j : Int)) (fun j ρ => ∃ (x5 x6 x7 x8 x9 x10 : Option T), ρ = [some (.v (.lst (ns.map D.int))), some (plT p'), some (.v (.int i)), some (.v (toldD n as)), some (.v (trD C n as)), x5, x6, x7, x8, x9, x10, none]) g
          (ρ1 := [some (.v (.lst (ns.map D.int))), some (plT p'), some (.v (.int i)), some (.v (toldD n as)), some (.v (trD C n as)), x5, x6, x7, x8, x9, x10, none])
          (it_range1 (nn := n) (eva_cons (ev_ixT (ds := [.int n, asD as]) (ev_var 3) ev_int rfl) eva_nil) (by omega) (by omega) G.at) ⟨x5, x6, x7, x8, x9, x10, rfl⟩ ?_ ?_)
        · rintro j ρ hj ⟨y5, y6, y7, y8, y9, y10, rfl⟩
          have j0 : 0 ≤ (j : Int) := by omega
          have j1 : (j : Int) < n := by omega
          refine ⟨[some (.v (.lst (ns.map D.int))), some (plT p'), some (.v (.int i)), some (.v (toldD n as)), some (.v (trD C n as)), some (.v (.int j)), y6, y7, y8, y9, y10, none], tg_name 5 g, ?_⟩
          refine s_cons (s_set 6 g (ev_frzL (ev_callV [toldD n as, .int j] Fs (hr.mono (by decide)) (eva_cons (ev_var 3) (eva_cons (ev_var 5) eva_nil)) ⟨n, as, j, rfl, ok.l2, rfl⟩)) ?_)
          have hlet : ∀ x ∈ lettersOf as j, x.length = 1 := by
            intro x hx
            simp only [lettersOf, stepsOf, List.mem_map, List.mem_filter] at hx
            obtain ⟨a, ⟨ha, _⟩, rfl⟩ := hx
            obtain ⟨c, e, _⟩ := (ok.ok a ha).l
            rw [e]; rfl
          have hlen : (lettersOf as j).length ≤ 60 := by
            have := ok.l2
            have : (lettersOf as j).length ≤ as.length := by
              simp only [lettersOf, stepsOf, List.length_map]
              exact List.length_filter_le _ _
            omega
          have hsl : (stepsOf as j).length ≤ 60 := by simpa [lettersOf] using hlen
          refine s_cons (s_if (bo := false) (tv_w (tw_or (bo := false) (bo' := false) (ρ1 := [some (.v (.lst (ns.map D.int))), some (plT p'), some (.v (.int i)), some (.v (toldD n as)), some (.v (trD C n as)), some (.v (.int j)), some (.v (.lst (stD as j))), y7, y8, y9, y10, none]) (tv_cmpv (x := .str (Txt.join ⟨#[]⟩ (lettersOf as j))) (y := .str (Txt.join ⟨#[]⟩ (lettersOf as j))) (ev_callV [trD C n as, .int j] Fl (hr.mono (by decide)) (eva_cons (ev_var 4) (eva_cons (ev_var 5) eva_nil)) ⟨n, as, j, rfl, ok, j0, j1, rfl⟩) (ev_join (w := ⟨#[]⟩) (ws := lettersOf as j) (r := .lst (((lettersOf as j).map D.str).map T.v)) ev_str ?_ (.inl (lst_vd _)) ?_) (cv_neSb (by simp)))
            (fun _ => tw_or1 (tv_not (tv_val (bo := true) (ev_isi (d := .str (Txt.join ⟨#[]⟩ (lettersOf as j))) (ev_callV [trD C n as, .int j] Fl (hr.mono (by decide)) (eva_cons (ev_var 4) (eva_cons (ev_var 5) eva_nil)) ⟨n, as, j, rfl, ok, j0, j1, rfl⟩) (ev_bty G.at PyProof.Rows.boot_str) trivial (kit_s (d := .str (Txt.join ⟨#[]⟩ (lettersOf as j))) trivial) G.at)))))) (fun e => by cases e) fun _ => s_nil ?_)
          · refine ev_lc (n := (stepsOf as j).length) (accF := ((lettersOf as j).map D.str).map T.v) [("step", 11)] (fun k ρ acc => ρ = [some (.v (.lst (ns.map D.int))), some (plT p'), some (.v (.int i)), some (.v (toldD n as)), some (.v (trD C n as)), some (.v (.int j)), some (.v (.lst (stD as j))), y7, y8, y9, y10, none] ∧ acc = ((((stepsOf as j).take k).map fun a => a.2.1).map D.str).map T.v) g
              (ρ1 := [some (.v (.lst (ns.map D.int))), some (plT p'), some (.v (.int i)), some (.v (toldD n as)), some (.v (trD C n as)), some (.v (.int j)), some (.v (.lst (stD as j))), y7, y8, y9, y10, none])
              (Iter.to (it_list (ds := stD as j) (ev_var 6)) (by simp [stD]) (item' := fun k => tK (edK ((stepsOf as j).getD k default))) (fun i hi => by simp [stD, List.getD_eq_getElem?_getD, hi])) ?_ ?_ ⟨rfl, rfl⟩ ?_ ?_ (by omega)
            · show BlkOk ["script", "pool", "turn", "told", "track", "place", "steps", "letter", "pay", "goal", "shown", "step"] (defScope st_law) _ _
              exact ⟨rfl, by decide +kernel, by decide +kernel, by decide +kernel, by decide +kernel⟩
            · intro j hj t h
              simp at hj
              subst hj
              simp at h
            · rintro k ρ acc hk ⟨rfl, rfl⟩
              have ha : (stepsOf as j).take (k + 1) = (stepsOf as j).take k ++ [(stepsOf as j).getD k default] := by rw [List.take_succ_eq_append_getElem hk]; simp [List.getD_eq_getElem?_getD, hk]
              obtain ⟨b, hb⟩ : ∃ b, (stepsOf as j).getD k default = b := ⟨_, rfl⟩
              rw [hb] at ha
              refine ⟨[some (.v (.lst (ns.map D.int))), some (plT p'), some (.v (.int i)), some (.v (toldD n as)), some (.v (trD C n as)), some (.v (.int j)), some (.v (.lst (stD as j))), y7, y8, y9, y10, some (.v (tK (edK b)))], true, [some (.v (.lst (ns.map D.int))), some (plT p'), some (.v (.int i)), some (.v (toldD n as)), some (.v (trD C n as)), some (.v (.int j)), some (.v (.lst (stD as j))), y7, y8, y9, y10, some (.v (tK (edK b)))],
                fun s' H C cl fp => by simp only [hb]; exact tgk_name 11 g.nd, fun s' H C cl fp => ts_nil, fun _ => ⟨.v (.str b.2.1), [some (.v (.lst (ns.map D.int))), some (plT p'), some (.v (.int i)), some (.v (toldD n as)), some (.v (trD C n as)), some (.v (.int j)), some (.v (.lst (stD as j))), y7, y8, y9, y10, some (.v (tK (edK b)))], fun s' H C cl fp => ev_ixT (ds := (edK b).map kD) (n := 0) (ev_var 11) ev_int rfl, rfl, ?_⟩, fun e => by cases e⟩
              rw [ha]
              simp
            · rintro ρ acc ⟨rfl, rfl⟩
              rw [List.take_length]
              exact ⟨rfl, rfl⟩
          · rw [sum_ones hlet]
            show _ + _ * 0 ≤ _
            omega
          · refine s_cons (s_for (n := (stepsOf as j).length) (item := fun k => tK (edK ((stepsOf as j).getD k default))) (fun k ρ => ∃ (z7 z8 z9 z10 : Option T), ρ = [some (.v (.lst (ns.map D.int))), some (plT p'), some (.v (.int i)), some (.v (toldD n as)), some (.v (trD C n as)), some (.v (.int j)), some (.v (.lst (stD as j))), z7, z8, z9, z10, none]) g
              (ρ1 := [some (.v (.lst (ns.map D.int))), some (plT p'), some (.v (.int i)), some (.v (toldD n as)), some (.v (trD C n as)), some (.v (.int j)), some (.v (.lst (stD as j))), y7, y8, y9, y10, none])
              (Iter.to (it_list (ds := stD as j) (ev_var 6)) (by simp [stD]) (fun i hi => by simp [stD, List.getD_eq_getElem?_getD, hi])) ⟨y7, y8, y9, y10, rfl⟩ ?_ ?_)
            · rintro k ρ hk ⟨z7, z8, z9, z10, rfl⟩
              have hbm : (stepsOf as j).getD k default ∈ stepsOf as j := by
                simp only [List.getD_eq_getElem?_getD, List.getElem?_eq_getElem hk]
                exact List.getElem_mem hk
              generalize (stepsOf as j).getD k default = b at hbm
              have hb2 : b ∈ as ∧ b.1 = (j : Int) := by
                unfold stepsOf at hbm
                rw [List.mem_filter] at hbm
                exact ⟨hbm.1, by simpa using hbm.2⟩
              obtain ⟨hba, hbj⟩ := hb2
              refine ⟨[some (.v (.lst (ns.map D.int))), some (plT p'), some (.v (.int i)), some (.v (toldD n as)), some (.v (trD C n as)), some (.v (.int j)), some (.v (.lst (stD as j))), some (.v (.str b.2.1)), some (.v (.int b.2.2.1)), some (.v (.int b.2.2.2)), z10, none], tg_tup (ds := [.str b.2.1, .int b.2.2.1, .int b.2.2.2]) g (tgs_cons (tg_name 7 g) (tgs_cons (tg_name 8 g) (tgs_cons (tg_name 9 g) tgs_nil))) rfl, ?_⟩
              refine s_cons (s_set 10 g (ev_callV [trD C n as, .int j, .str b.2.1] Fa (hr.mono (by decide)) (eva_cons (ev_var 4) (eva_cons (ev_var 5) (eva_cons (ev_var 7) eva_nil))) ⟨n, as, b, by rw [hbj]; rfl, ok, hba, rfl⟩) ?_)
              refine s_cons (s_if (bo := false) (tv_w (tw_or (bo := false) (bo' := false) (tv_cmpv (x := .tup ([b.2.2.1, b.2.2.2].map D.int)) (y := .tup ([b.2.2.1, b.2.2.2].map D.int)) (ev_var 10) (ev_tup (ds := [.int b.2.2.1, .int b.2.2.2]) (eva_cons (ev_var 8) (eva_cons (ev_var 9) eva_nil)) (by simp)) (cv_ne g.hu (fine_ints _) (fine_ints _) (by simp)))
                (fun _ => tw_or (bo := false) (bo' := false) (tv_not (tv_val (bo := true) (ev_isi (d := .tup [.int b.2.2.1, .int b.2.2.2]) (ev_var 10) (ev_bty G.at PyProof.Rows.boot_tuple) trivial (kit_t (d := .tup [.int b.2.2.1, .int b.2.2.2]) trivial) G.at))) (fun _ => tw_or1 (tv_val (bo := false) (ev_isi (d := .int b.2.2.1) (ev_ixT (ds := [.int b.2.2.1, .int b.2.2.2]) (n := 0) (ev_var 10) ev_int rfl) (ev_bty G.at PyProof.Rows.boot_bool) trivial (kit_b (d := .int b.2.2.1) trivial) G.at)))))) (fun e => by cases e) fun _ => s_nil (s_nil ⟨_, _, _, _, rfl⟩))
            · rintro ρ ⟨z7, z8, z9, z10, rfl⟩
              obtain ⟨ms, up, hms⟩ := reach_list (p := j) ok j0 j1
              refine s_cons (s_if (bo := false) (tv_cmpv (x := .tup (ms.map D.int)) (y := .tup (ms.map D.int)) (ev_callV [trD C n as, .int j] Fe (hr.mono (by decide)) (eva_cons (ev_var 4) (eva_cons (ev_var 5) eva_nil)) ⟨n, as, j, ms, rfl, ok, j0, j1, up, hms, rfl⟩)
                (ev_tupleL (xs := ms.map D.int) (r := .lst ((ms.map D.int).map T.v)) (ev_callV [toldD n as, .int j] Fr (hr.mono (by decide)) (eva_cons (ev_var 3) (eva_cons (ev_var 5) eva_nil)) ⟨n, as, j, ms, rfl, ok, j0, j1, up, hms, rfl⟩) (.inl (lst_vd _)) G.at) (cv_ne g.hu (fine_ints _) (fine_ints _) (by simp))) (fun e => by cases e) fun _ => s_nil (s_nil ⟨_, _, _, _, _, _, rfl⟩))
        · rintro ρ ⟨y5, y6, y7, y8, y9, y10, rfl⟩
          exact s_nil ⟨p', _, _, _, _, _, _, _, _, _, rfl, hl⟩
    · rintro ρ ⟨p, x2, x3, x4, x5, x6, x7, x8, x9, x10, rfl, hp⟩
      exact s_cons (s_ret ev_bl q)
end
end Vl
end
section
set_option maxRecDepth 100000
namespace Vl
open PySem L2
/-- the def called x lies in the globals, and takes ps -/
def Df (K : PySem.W.Frag) (mg : Str → Option Value) (x : Str) (st : Stmt) (ps : List Str) : Prop := ∃ (f : Addr) (fd : FuncData), Fun K x x st f fd ∧ mg x = some (.ref f) ∧ Binds K fd ps []
section
variable {P : Program} {w : World} {K : PySem.W.Frag} {mg : Str → Option Value} {base : Heap}
/-- all the defs that the law reaches, one upon the other -/
theorem law_all {fi C : Addr} {fdi : FuncData} (G : Bl mg) (M : Mc mg) (T0 : Tc K C) (hC : mg "Track" = some (.ref C)) (Mm : Mk K C fi) (Fi : Fun K "__init__" "Track.__init__" st_track_init fi fdi) (hbi : Binds K fdi ["self", "places", "arrows"] [])
    (d6 : Df K mg "is_integer" st_is_integer ["thing"]) (d7 : Df K mg "is_within" st_is_within ["thing", "low", "high"]) (d8 : Df K mg "is_letter" st_is_letter ["thing"]) (d9 : Df K mg "is_rising" st_is_rising ["items"])
    (d11 : Df K mg "is_place" st_is_place ["track", "thing"]) (d12 : Df K mg "check_place" st_check_place ["track", "place"]) (d18 : Df K mg "wrong_part" st_wrong_part ["places", "arrows"]) (d19 : Df K mg "are_arrows" st_are_arrows ["places", "thing"]) (d20 : Df K mg "is_arrow" st_is_arrow ["places", "thing"])
    (d21 : Df K mg "ways_of" st_ways_of ["track"]) (d22 : Df K mg "letters" st_letters ["track", "place"]) (d23 : Df K mg "arrow" st_arrow ["track", "place", "letter"]) (d24 : Df K mg "reached" st_reached ["track", "place"])
    (d26 : Df K mg "_law_pool" st_pool' ["script"]) (d27 : Df K mg "_law_draw" st_draw ["pool", "many"]) (d28 : Df K mg "_law_signs" st_signs ["pool", "many"]) (d29 : Df K mg "_law_bound" st_bound ["told"]) (d30 : Df K mg "_law_mild" st_mild ["told"]) (d31 : Df K mg "_law_told" st_told ["pool", "few"])
    (d32 : Df K mg "_law_track" st_track ["told"]) (d33 : Df K mg "_law_steps" st_steps ["told", "place"]) (d34 : Df K mg "_law_reached" st_lreached ["told", "place"]) {f : Addr} {fd : FuncData} (F35 : Fun K "law" "law" st_law f fd) : FnOk P w K mg base (L2.CX P w) 9 f fd ["script"] (spF K R_law) := by
  obtain ⟨f6, fd6, F6, m6, b6⟩ := d6
  obtain ⟨f7, fd7, F7, m7, b7⟩ := d7
  obtain ⟨f8, fd8, F8, m8, b8⟩ := d8
  obtain ⟨f9, fd9, F9, m9, b9⟩ := d9
  obtain ⟨f11, fd11, F11, m11, b11⟩ := d11
  obtain ⟨f12, fd12, F12, m12, b12⟩ := d12
  obtain ⟨f18, fd18, F18, m18, b18⟩ := d18
  obtain ⟨f19, fd19, F19, m19, b19⟩ := d19
  obtain ⟨f20, fd20, F20, m20, b20⟩ := d20
  obtain ⟨f21, fd21, F21, m21, b21⟩ := d21
  obtain ⟨f22, fd22, F22, m22, b22⟩ := d22
  obtain ⟨f23, fd23, F23, m23, b23⟩ := d23
  obtain ⟨f24, fd24, F24, m24, b24⟩ := d24
  obtain ⟨f26, fd26, F26, m26, b26⟩ := d26
  obtain ⟨f27, fd27, F27, m27, b27⟩ := d27
  obtain ⟨f28, fd28, F28, m28, b28⟩ := d28
  obtain ⟨f29, fd29, F29, m29, b29⟩ := d29
  obtain ⟨f30, fd30, F30, m30, b30⟩ := d30
  obtain ⟨f31, fd31, F31, m31, b31⟩ := d31
  obtain ⟨f32, fd32, F32, m32, b32⟩ := d32
  obtain ⟨f33, fd33, F33, m33, b33⟩ := d33
  obtain ⟨f34, fd34, F34, m34, b34⟩ := d34
  have N6 : Fn P w K mg base 1 "is_integer" (R_is_integer K) := fn_is_integer F6 m6 b6 G
  have N7 : Fn P w K mg base 2 "is_within" R_is_within := fn_is_within F7 m7 b7 N6
  have N8 : Fn P w K mg base 1 "is_letter" R_is_letter := fn_is_letter F8 m8 b8 G
  have N9 : Fn P w K mg base 1 "is_rising" R_is_rising := fn_is_rising F9 m9 b9 G
  have N20 : Fn P w K mg base 3 "is_arrow" R_is_arrow := fn_is_arrow F20 m20 b20 G M N7 N8
  have N19 : Fn P w K mg base 4 "are_arrows" R_are_arrows := fn_are_arrows F19 m19 b19 G M N20 N9
  have N18 : Fn P w K mg base 5 "wrong_part" R_wrong_part := fn_wrong_part F18 m18 b18 G M N7 N19
  have Ct : Cn P w K mg base 6 "Track" C (R_track C) := cn_track Fi Mm hC hbi T0 N18
  have N11 : Fn P w K mg base 3 "is_place" (R_is_place C) := fn_is_place F11 m11 b11 T0 N7
  have N12 : Fn P w K mg base 4 "check_place" (R_check_place C) := fn_check_place F12 m12 b12 N11
  have N21 : Fn P w K mg base 1 "ways_of" (R_ways_of C) := fn_ways_of F21 m21 b21 G T0
  have N22 : Fn P w K mg base 5 "letters" (R_letters C) := fn_letters F22 m22 b22 G N12 N21
  have N23 : Fn P w K mg base 5 "arrow" (R_arrow C) := fn_arrow F23 m23 b23 N12 N21 N8
  have N24 : Fn P w K mg base 5 "reached" (R_reached C) := fn_reached F24 m24 b24 G N12 N21
  have N26 : Fn P w K mg base 1 "_law_pool" R_pool := fn_pool F26 m26 b26 G
  have N27 : Fn P w K mg base 1 "_law_draw" R_draw := fn_draw F27 m27 b27 G
  have N28 : Fn P w K mg base 2 "_law_signs" R_signs := fn_signs F28 m28 b28 G N27
  have N29 : Fn P w K mg base 1 "_law_bound" R_bound := fn_bound F29 m29 b29 G
  have N30 : Fn P w K mg base 2 "_law_mild" R_mild := fn_mild F30 m30 b30 G N29
  have N31 : Fn P w K mg base 3 "_law_told" R_told := fn_told F31 m31 b31 G N27 N28 N30
  have N32 : Fn P w K mg base 8 "_law_track" (R_ltrack C) := fn_ltrack F32 m32 b32 Ct
  have N33 : Fn P w K mg base 1 "_law_steps" R_steps := fn_steps F33 m33 b33 G
  have N34 : Fn P w K mg base 2 "_law_reached" R_lreached := fn_lreached F34 m34 b34 G N33
  exact fn_law F35 G N26 N27 N31 N32 N33 N34 N22 N23 N24
end
end Vl
end
section
set_option maxRecDepth 100000
namespace Vl
open PySem L2
def Bd (x qual : Str) (st : Stmt) (ps : List Str) : Prop := ∀ (kV doc pm : Value) (an : Option Addr) (cdv ct : Value) (us : List Value), us.length = ps.length → bindArgs (PySem.W.fnOf x qual (defArgs st) (defBody st) (defScope st) .none kV doc pm an cdv ct) ⟨us, []⟩ = pure (ps.zip us)
theorem df_mk {K : PySem.W.Frag} {h : Heap} {mg : Str → Option Value} {x : Str} {st : Stmt} {ps : List Str} {f : Addr} {oc : Value} {od an : Option Addr} {osl : Array (Option Value)} {kV doc pm cdv ct : Value} (B : Bd x x st ps) (X : K.In h) (G : h.Ns mainGlobals mg)
    (a : PySem.W.nsIn K mainGlobals x = some (some (.ref f))) (l : K.lookup f = some ⟨oc, od, .func (PySem.W.fnOf x x (defArgs st) (defBody st) (defScope st) .none kV doc pm an cdv ct), osl⟩) (c : PySem.W.codeIn K cdv x = true) (k : PySem.W.keepIn K (.ref f) = true) : Df K mg x st ps :=
  ⟨f, _, fun_mk l c k, PySem.W.mg_of X G a, (fun_mk l c k).binds B⟩
theorem bd_6 : Bd "is_integer" "is_integer" st_is_integer ["thing"] := fun _ _ _ _ _ _ us hl => match us, hl with | [_], _ => rfl
theorem bd_7 : Bd "is_within" "is_within" st_is_within ["thing", "low", "high"] := fun _ _ _ _ _ _ us hl => match us, hl with | [_, _, _], _ => rfl
theorem bd_8 : Bd "is_letter" "is_letter" st_is_letter ["thing"] := fun _ _ _ _ _ _ us hl => match us, hl with | [_], _ => rfl
theorem bd_9 : Bd "is_rising" "is_rising" st_is_rising ["items"] := fun _ _ _ _ _ _ us hl => match us, hl with | [_], _ => rfl
theorem bd_11 : Bd "is_place" "is_place" st_is_place ["track", "thing"] := fun _ _ _ _ _ _ us hl => match us, hl with | [_, _], _ => rfl
theorem bd_12 : Bd "check_place" "check_place" st_check_place ["track", "place"] := fun _ _ _ _ _ _ us hl => match us, hl with | [_, _], _ => rfl
theorem bd_18 : Bd "wrong_part" "wrong_part" st_wrong_part ["places", "arrows"] := fun _ _ _ _ _ _ us hl => match us, hl with | [_, _], _ => rfl
theorem bd_19 : Bd "are_arrows" "are_arrows" st_are_arrows ["places", "thing"] := fun _ _ _ _ _ _ us hl => match us, hl with | [_, _], _ => rfl
theorem bd_20 : Bd "is_arrow" "is_arrow" st_is_arrow ["places", "thing"] := fun _ _ _ _ _ _ us hl => match us, hl with | [_, _], _ => rfl
theorem bd_21 : Bd "ways_of" "ways_of" st_ways_of ["track"] := fun _ _ _ _ _ _ us hl => match us, hl with | [_], _ => rfl
theorem bd_22 : Bd "letters" "letters" st_letters ["track", "place"] := fun _ _ _ _ _ _ us hl => match us, hl with | [_, _], _ => rfl
theorem bd_23 : Bd "arrow" "arrow" st_arrow ["track", "place", "letter"] := fun _ _ _ _ _ _ us hl => match us, hl with | [_, _, _], _ => rfl
theorem bd_24 : Bd "reached" "reached" st_reached ["track", "place"] := fun _ _ _ _ _ _ us hl => match us, hl with | [_, _], _ => rfl
theorem bd_26 : Bd "_law_pool" "_law_pool" st_pool' ["script"] := fun _ _ _ _ _ _ us hl => match us, hl with | [_], _ => rfl
theorem bd_27 : Bd "_law_draw" "_law_draw" st_draw ["pool", "many"] := fun _ _ _ _ _ _ us hl => match us, hl with | [_, _], _ => rfl
theorem bd_28 : Bd "_law_signs" "_law_signs" st_signs ["pool", "many"] := fun _ _ _ _ _ _ us hl => match us, hl with | [_, _], _ => rfl
theorem bd_29 : Bd "_law_bound" "_law_bound" st_bound ["told"] := fun _ _ _ _ _ _ us hl => match us, hl with | [_], _ => rfl
theorem bd_30 : Bd "_law_mild" "_law_mild" st_mild ["told"] := fun _ _ _ _ _ _ us hl => match us, hl with | [_], _ => rfl
theorem bd_31 : Bd "_law_told" "_law_told" st_told ["pool", "few"] := fun _ _ _ _ _ _ us hl => match us, hl with | [_, _], _ => rfl
theorem bd_32 : Bd "_law_track" "_law_track" st_track ["told"] := fun _ _ _ _ _ _ us hl => match us, hl with | [_], _ => rfl
theorem bd_33 : Bd "_law_steps" "_law_steps" st_steps ["told", "place"] := fun _ _ _ _ _ _ us hl => match us, hl with | [_, _], _ => rfl
theorem bd_34 : Bd "_law_reached" "_law_reached" st_lreached ["told", "place"] := fun _ _ _ _ _ _ us hl => match us, hl with | [_, _], _ => rfl
theorem bd_i : Bd "__init__" "Track.__init__" st_track_init ["self", "places", "arrows"] := fun _ _ _ _ _ _ us hl => match us, hl with | [_, _, _], _ => rfl
theorem bl_mk {K : PySem.W.Frag} {h : Heap} {mg : Str → Option Value} (X : K.In h) (G : h.Ns mainGlobals mg)
    (z0 : PySem.W.nsIn K mainGlobals "isinstance" = some none) (z1 : PySem.W.nsIn K mainGlobals "int" = some none) (z2 : PySem.W.nsIn K mainGlobals "bool" = some none) (z3 : PySem.W.nsIn K mainGlobals "str" = some none) (z4 : PySem.W.nsIn K mainGlobals "tuple" = some none) (z5 : PySem.W.nsIn K mainGlobals "list" = some none) (z6 : PySem.W.nsIn K mainGlobals "dict" = some none) (z7 : PySem.W.nsIn K mainGlobals "len" = some none) (z8 : PySem.W.nsIn K mainGlobals "all" = some none) (z9 : PySem.W.nsIn K mainGlobals "any" = some none) (z10 : PySem.W.nsIn K mainGlobals "sum" = some none) (z11 : PySem.W.nsIn K mainGlobals "max" = some none) (z12 : PySem.W.nsIn K mainGlobals "min" = some none) (z13 : PySem.W.nsIn K mainGlobals "range" = some none) (z14 : PySem.W.nsIn K mainGlobals "sorted" = some none) (z15 : PySem.W.nsIn K mainGlobals "set" = some none) (z16 : PySem.W.nsIn K mainGlobals "abs" = some none) (z17 : PySem.W.nsIn K mainGlobals "enumerate" = some none) : Bl mg := by
  intro x hx
  simp only [bltN, List.mem_cons, List.not_mem_nil, or_false] at hx
  rcases hx with rfl | rfl | rfl | rfl | rfl | rfl | rfl | rfl | rfl | rfl | rfl | rfl | rfl | rfl | rfl | rfl | rfl | rfl
  · exact PySem.W.mg_none_of X G z0
  · exact PySem.W.mg_none_of X G z1
  · exact PySem.W.mg_none_of X G z2
  · exact PySem.W.mg_none_of X G z3
  · exact PySem.W.mg_none_of X G z4
  · exact PySem.W.mg_none_of X G z5
  · exact PySem.W.mg_none_of X G z6
  · exact PySem.W.mg_none_of X G z7
  · exact PySem.W.mg_none_of X G z8
  · exact PySem.W.mg_none_of X G z9
  · exact PySem.W.mg_none_of X G z10
  · exact PySem.W.mg_none_of X G z11
  · exact PySem.W.mg_none_of X G z12
  · exact PySem.W.mg_none_of X G z13
  · exact PySem.W.mg_none_of X G z14
  · exact PySem.W.mg_none_of X G z15
  · exact PySem.W.mg_none_of X G z16
  · exact PySem.W.mg_none_of X G z17
theorem law_sp {K : PySem.W.Frag} {H : Hp} {a : Addr} {ns : List Int} (hl : ns.length ≤ 63) (hS : SqL K H a (ns.map V.int)) : spF K R_law [.ref a] H (fun v _ => v = .bl true) (fun _ _ _ => False) := by
  have dn : ∀ l : List Int, DenL K H (l.map V.int) (l.map D.int) := fun l => by
    induction l with
    | nil => exact .nil
    | cons x l ih => exact .cons (.int x) ih
  refine ⟨fun _ => none, fun _ => none, [.v (.lst (ns.map D.int))], fun r _ => r = .v (.bl true), fun _ => False, rfl, ?_, ⟨ns, rfl, Nat.le_trans hl (by decide), rfl⟩, ?_, fun _ _ _ _ _ h _ _ => h.elim⟩
  · exact ⟨H, [] ++ [], fun _ _ e => (by cases e), fun _ _ e => .inl e, fun _ _ e => (by cases e), fun _ _ _ => .inr rfl, .cons (.v (.lst hS (dn ns))) .nil, by simp, fun _ e => by cases e⟩
  · rintro r ts' v H' rfl R
    obtain ⟨F, A, _, _, _, _, o, _, _⟩ := R
    cases o with
    | cons h _ => cases h with
      | v h => cases h; rfl
theorem all_mk {P : Program} {w : World} {K : PySem.W.Frag} {h : Heap} {mg : Str → Option Value} {fa fi C fL : Addr} (X : K.In h) (G : h.Ns mainGlobals mg) (hfa : mg "law" = some (.ref fa))
    {oci kVi dci pmi cdi cti : Value} {odi ani : Option Addr} {sli : Array (Option Value)} {ocL kVL dcL pmL cdL ctL : Value} {odL anL : Option Addr} {slL : Array (Option Value)} {tP tA tY}
    (Bm : Bl mg) (aP : PySem.W.nsIn K mainGlobals "MOST_PLACES" = some (some (.int 12 tP))) (aA : PySem.W.nsIn K mainGlobals "MOST_ARROWS" = some (some (.int 60 tA))) (aY : PySem.W.nsIn K mainGlobals "MOST_PAY" = some (some (.int 9 tY)))
    (aC : PySem.W.nsIn K mainGlobals "Track" = some (some (.ref C)))
    (ai : PySem.W.findIn K (.ref C) "__init__" = some (some (.ref fi))) (ii : PySem.W.isFn K (.ref fi) = true) (li : K.lookup fi = some ⟨oci, odi, .func (PySem.W.fnOf "__init__" "Track.__init__" (defArgs st_track_init) (defBody st_track_init) (defScope st_track_init) .none kVi dci pmi ani cdi cti), sli⟩) (ci : PySem.W.codeIn K cdi "Track.__init__" = true) (ki : PySem.W.keepIn K (.ref fi) = true)
    (pg : PySem.W.plainGet K C Str.empty = true) (hd : PySem.W.hasDictIn K C = true) (po : PySem.W.plainOver K C = true) (sa : PySem.W.findIn K (.ref C) "__setattr__" = some (some (.builtin "object.__setattr__"))) (mk : PySem.W.makesIn K C = true) (kc : PySem.W.keepIn K (.ref C) = true)
    (nP : PySem.W.findIn K (.ref C) "places" = some none) (nA : PySem.W.findIn K (.ref C) "arrows" = some none)
    (d6 : Df K mg "is_integer" st_is_integer ["thing"]) (d7 : Df K mg "is_within" st_is_within ["thing", "low", "high"]) (d8 : Df K mg "is_letter" st_is_letter ["thing"]) (d9 : Df K mg "is_rising" st_is_rising ["items"]) (d11 : Df K mg "is_place" st_is_place ["track", "thing"]) (d12 : Df K mg "check_place" st_check_place ["track", "place"]) (d18 : Df K mg "wrong_part" st_wrong_part ["places", "arrows"]) (d19 : Df K mg "are_arrows" st_are_arrows ["places", "thing"]) (d20 : Df K mg "is_arrow" st_is_arrow ["places", "thing"]) (d21 : Df K mg "ways_of" st_ways_of ["track"]) (d22 : Df K mg "letters" st_letters ["track", "place"]) (d23 : Df K mg "arrow" st_arrow ["track", "place", "letter"]) (d24 : Df K mg "reached" st_reached ["track", "place"]) (d26 : Df K mg "_law_pool" st_pool' ["script"]) (d27 : Df K mg "_law_draw" st_draw ["pool", "many"]) (d28 : Df K mg "_law_signs" st_signs ["pool", "many"]) (d29 : Df K mg "_law_bound" st_bound ["told"]) (d30 : Df K mg "_law_mild" st_mild ["told"]) (d31 : Df K mg "_law_told" st_told ["pool", "few"]) (d32 : Df K mg "_law_track" st_track ["told"]) (d33 : Df K mg "_law_steps" st_steps ["told", "place"]) (d34 : Df K mg "_law_reached" st_lreached ["told", "place"])
    (aL : PySem.W.nsIn K mainGlobals "law" = some (some (.ref fL))) (lL : K.lookup fL = some ⟨ocL, odL, .func (PySem.W.fnOf "law" "law" (defArgs st_law) (defBody st_law) (defScope st_law) .none kVL dcL pmL anL cdL ctL), slL⟩) (cL : PySem.W.codeIn K cdL "law" = true) (kL : PySem.W.keepIn K (.ref fL) = true) :
    ∃ fd : FuncData, (∀ (s : Shared) (v : Value), BindsTo s fd ⟨[v], []⟩ [("script", v)]) ∧ ∀ base : Heap, K.In base → base.Ns mainGlobals mg → FnOk P w K mg base (L2.CX P w) 9 fa fd ["script"] (spF K R_law) := by
  have e := hfa.symm.trans (PySem.W.mg_of X G aL)
  cases e
  exact ⟨PySem.W.fnOf "law" "law" (defArgs st_law) (defBody st_law) (defScope st_law) .none kVL dcL pmL anL cdL ctL, fun s v => .of_eq rfl, fun base _ _ =>
    law_all Bm ⟨⟨tP, PySem.W.mg_of X G aP⟩, ⟨tA, PySem.W.mg_of X G aA⟩, ⟨tY, PySem.W.mg_of X G aY⟩⟩ ⟨⟨pg, hd, po, sa⟩, nP, nA⟩ (PySem.W.mg_of X G aC) ⟨mk, ai, ii, kc⟩ (fun_mk li ci ki) ((fun_mk li ci ki).binds bd_i) d6 d7 d8 d9 d11 d12 d18 d19 d20 d21 d22 d23 d24 d26 d27 d28 d29 d30 d31 d32 d33 d34 (fun_mk lL cL kL)⟩
theorem walk {l : PySem.W.OpenLaw} {q : Program} {loose : List Str} {XP : (Str → Option Value) → Heap → Prop} {YP : World → Heap → Prop} {d : DefRec} {K : Params → PySem.W.Frag} (hn : l.most = some 63) (hdf : d.params.defaults = [])
    (hY : ∀ (w : World) (h : Heap), YP w h → (K w.params).In h)
    (F : ∀ (w : World) (mg : Str → Option Value) (fa : Addr) (h : Heap), (K w.params).In h → h.Ns mainGlobals mg → mg d.name = some (.ref fa) →
      ∃ fd : FuncData, (∀ (s : Shared) (u : Value), BindsTo s fd ⟨[u], []⟩ [("script", u)]) ∧ ∀ base : Heap, (K w.params).In base → base.Ns mainGlobals mg → FnOk l.prog w (K w.params) mg base (L2.CX l.prog w) 9 fa fd ["script"] (spF (K w.params) R_law)) :
    PySem.W.WalkO q loose XP YP l.row.toRowW d [] (fun f vs => PySem.call f vs) :=
  L2.walk_of (n := 63) (k := 9) (x := "script") (CX := fun w => L2.CX l.prog w) (sp := fun w => spF (K w.params) R_law) hn (by decide) hdf ⟨rfl, by decide, by decide⟩ hY F (fun _ _ _ _ hl _ hS => law_sp hl hS) fun w H s e s' h => by
    obtain ⟨_, _, _, _, _, _, _, _, _, _, _, _, z⟩ := h
    exact z
end Vl
end
section
open PySem PySem.W PyProof.Rows
set_option maxRecDepth 100000 in
set_option maxHeartbeats 0 in
theorem PySem.Challenge.cw_wholestakes_k03_whole_letters_and_places_holds : PySem.Challenge.rw_wholestakes_k03_whole_letters_and_places.Holds := by
  w_on; o_law; k_head; (case hw => w_witness2)
  k_fill
  refine Vl.walk (l := PySem.Challenge.rw_wholestakes_k03_whole_letters_and_places) rfl rfl (fun w h Y => PySem.W.kIn_of Y) ?F
  case F =>
    intro w mg fa h KX G hmg
    refine' Vl.all_mk KX G hmg (Vl.bl_mk KX G ?z0 ?z1 ?z2 ?z3 ?z4 ?z5 ?z6 ?z7 ?z8 ?z9 ?z10 ?z11 ?z12 ?z13 ?z14 ?z15 ?z16 ?z17) ?aP ?aA ?aY ?aC ?ai ?ii ?li ?ci ?ki ?pg ?hd ?po ?sa ?mk ?kc ?nP ?nA (Vl.df_mk Vl.bd_6 KX G ?a6 ?l6 ?c6 ?k6) (Vl.df_mk Vl.bd_7 KX G ?a7 ?l7 ?c7 ?k7) (Vl.df_mk Vl.bd_8 KX G ?a8 ?l8 ?c8 ?k8) (Vl.df_mk Vl.bd_9 KX G ?a9 ?l9 ?c9 ?k9) (Vl.df_mk Vl.bd_11 KX G ?a11 ?l11 ?c11 ?k11) (Vl.df_mk Vl.bd_12 KX G ?a12 ?l12 ?c12 ?k12) (Vl.df_mk Vl.bd_18 KX G ?a18 ?l18 ?c18 ?k18) (Vl.df_mk Vl.bd_19 KX G ?a19 ?l19 ?c19 ?k19) (Vl.df_mk Vl.bd_20 KX G ?a20 ?l20 ?c20 ?k20) (Vl.df_mk Vl.bd_21 KX G ?a21 ?l21 ?c21 ?k21) (Vl.df_mk Vl.bd_22 KX G ?a22 ?l22 ?c22 ?k22) (Vl.df_mk Vl.bd_23 KX G ?a23 ?l23 ?c23 ?k23) (Vl.df_mk Vl.bd_24 KX G ?a24 ?l24 ?c24 ?k24) (Vl.df_mk Vl.bd_26 KX G ?a26 ?l26 ?c26 ?k26) (Vl.df_mk Vl.bd_27 KX G ?a27 ?l27 ?c27 ?k27) (Vl.df_mk Vl.bd_28 KX G ?a28 ?l28 ?c28 ?k28) (Vl.df_mk Vl.bd_29 KX G ?a29 ?l29 ?c29 ?k29) (Vl.df_mk Vl.bd_30 KX G ?a30 ?l30 ?c30 ?k30) (Vl.df_mk Vl.bd_31 KX G ?a31 ?l31 ?c31 ?k31) (Vl.df_mk Vl.bd_32 KX G ?a32 ?l32 ?c32 ?k32) (Vl.df_mk Vl.bd_33 KX G ?a33 ?l33 ?c33 ?k33) (Vl.df_mk Vl.bd_34 KX G ?a34 ?l34 ?c34 ?k34) ?aL ?lL ?cL ?kL
    (case z0 => k_is)
    (case z1 => k_is)
    (case z2 => k_is)
    (case z3 => k_is)
    (case z4 => k_is)
    (case z5 => k_is)
    (case z6 => k_is)
    (case z7 => k_is)
    (case z8 => k_is)
    (case z9 => k_is)
    (case z10 => k_is)
    (case z11 => k_is)
    (case z12 => k_is)
    (case z13 => k_is)
    (case z14 => k_is)
    (case z15 => k_is)
    (case z16 => k_is)
    (case z17 => k_is)
    (case aP => k_is)
    (case aA => k_is)
    (case aY => k_is)
    (case aC => k_is)
    (case ai => k_is)
    (case ii => k_is)
    (case li => k_is)
    (case ci => k_is)
    (case ki => k_is)
    (case pg => k_is)
    (case hd => k_is)
    (case po => k_is)
    (case sa => k_is)
    (case mk => k_is)
    (case kc => k_is)
    (case nP => k_is)
    (case nA => k_is)
    (case a6 => k_is)
    (case l6 => k_is)
    (case c6 => k_is)
    (case k6 => k_is)
    (case a7 => k_is)
    (case l7 => k_is)
    (case c7 => k_is)
    (case k7 => k_is)
    (case a8 => k_is)
    (case l8 => k_is)
    (case c8 => k_is)
    (case k8 => k_is)
    (case a9 => k_is)
    (case l9 => k_is)
    (case c9 => k_is)
    (case k9 => k_is)
    (case a11 => k_is)
    (case l11 => k_is)
    (case c11 => k_is)
    (case k11 => k_is)
    (case a12 => k_is)
    (case l12 => k_is)
    (case c12 => k_is)
    (case k12 => k_is)
    (case a18 => k_is)
    (case l18 => k_is)
    (case c18 => k_is)
    (case k18 => k_is)
    (case a19 => k_is)
    (case l19 => k_is)
    (case c19 => k_is)
    (case k19 => k_is)
    (case a20 => k_is)
    (case l20 => k_is)
    (case c20 => k_is)
    (case k20 => k_is)
    (case a21 => k_is)
    (case l21 => k_is)
    (case c21 => k_is)
    (case k21 => k_is)
    (case a22 => k_is)
    (case l22 => k_is)
    (case c22 => k_is)
    (case k22 => k_is)
    (case a23 => k_is)
    (case l23 => k_is)
    (case c23 => k_is)
    (case k23 => k_is)
    (case a24 => k_is)
    (case l24 => k_is)
    (case c24 => k_is)
    (case k24 => k_is)
    (case a26 => k_is)
    (case l26 => k_is)
    (case c26 => k_is)
    (case k26 => k_is)
    (case a27 => k_is)
    (case l27 => k_is)
    (case c27 => k_is)
    (case k27 => k_is)
    (case a28 => k_is)
    (case l28 => k_is)
    (case c28 => k_is)
    (case k28 => k_is)
    (case a29 => k_is)
    (case l29 => k_is)
    (case c29 => k_is)
    (case k29 => k_is)
    (case a30 => k_is)
    (case l30 => k_is)
    (case c30 => k_is)
    (case k30 => k_is)
    (case a31 => k_is)
    (case l31 => k_is)
    (case c31 => k_is)
    (case k31 => k_is)
    (case a32 => k_is)
    (case l32 => k_is)
    (case c32 => k_is)
    (case k32 => k_is)
    (case a33 => k_is)
    (case l33 => k_is)
    (case c33 => k_is)
    (case k33 => k_is)
    (case a34 => k_is)
    (case l34 => k_is)
    (case c34 => k_is)
    (case k34 => k_is)
    (case aL => k_is)
    (case lL => k_is)
    (case cL => k_is)
    (case kL => k_is)
end
