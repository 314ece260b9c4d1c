import PyProof.Rows.All
import Wide.All
import OpenK.AllK
import Wide.FinOn
import HandS.ForMost
import HandS.Wide
import HandS.Gcd
import HandS.IsInst
import HandS.TupAny
import HandS.SortInts
import HandS.Style
import HandS.Codes
import HandS.Walk
import HandS.RaiseMore
import HandS.TupMul
import HandS.WideBits
import HandS.Zip
import KE.KSortTupUse
import KE.KDictCopyH
import HandS.More
import KE.KDictPairs
import KE.KDictKeyed
import HandS.TupLen
import KE.KDictWalk
import PyProof.DictTable
import HandS.Conv
import HandS.TupLe
import KE.SortData
import KE.KeyNested
import HandS.TupSets
import PyProof.Transfer
import HandS.ListItems
import HandS.WordsDict
import PySem.Challenge.RW_dustwithin_k69_shared_books_of_anything
set_option Elab.async false
set_option maxRecDepth 100000
namespace My
open PySem PySem.Spec PyProof.Rows L2

/-! ### sorted(t), t a tuple of ints -/
section
variable {prog : Program} {w : World} {A : Around} {E : Value → Shared → Prop} {s : Shared}
theorem gather_tup {t : Addr} {us : List Value} {Q : List Value → Shared → Prop} (ht : IsTup s.heap t us.toArray) (hz : us.length ≤ sizeLine)
    (q : Q us { s with heap := (s.heap.push (seqObj "list" #[] 0)).update s.heap.objs.size (Obj.mapSeq (· ++ us.toArray)) }) : wpAny (model prog w) A (collect (.ref t)) Q E s := by
  obtain ⟨ob, hob, hcl, m, hdat⟩ := ht
  unfold collect
  refine wpAny_bind (wpAny_runValue (codeAny_builtin entry_proto_collect' ?_))
  show wpAny _ _ (do again (.builtin "list.__iadd__" ⟨[← newList [], .ref t], []⟩)) _ _ s
  refine wpAny_bind (wpAny_newList (wpAny_pure ⟨Code.quiet_builtin _ (by decide +kernel), codeAny_builtin entry_list_iadd' ?_⟩))
  show wpAny _ _ (Builtin.List.listExtendWith (.ref s.heap.objs.size) (.ref t) (.ref s.heap.objs.size)) _ _ { s with heap := s.heap.push (seqObj "list" #[] 0) }
  unfold Builtin.List.listExtendWith
  have hob1 : (s.heap.push (seqObj "list" #[] 0)).get? t = some ob := Heap.get?_push_of_some _ hob
  have e2 : (Value.type "tuple" == Value.type "tuple") = true := by rfl
  refine wpAny_bind (wpAny_typeOf (T := "tuple") ⟨ob, hob1, hcl⟩ ?_); rw [if_pos (by rw [e2]; simp)]
  refine wpAny_bind (listItems_at hob1 hdat ?_); refine wpAny_bind (listItems_at (n := 0) (xs := #[]) (Heap.get?_push_size _ rfl) rfl ?_); rw [if_neg (by simp)]
  refine wpAny_bind (listUpdate_at (n := 0) (xs := #[]) (Heap.get?_push_size _ rfl) rfl ?_ (Nat.zero_le _) (by show (#[] ++ us.toArray).size ≤ sizeLine + 1; simp only [Array.size_append, List.size_toArray, List.length_nil]; omega))
  refine wpAny_pure ?_; show wpAny (model prog w) A (do
      let ob ← load s.heap.objs.size
      match ob.data with
      | .seq xs _ => pure xs.toList
      | _ => unsupported "internal:collect") Q E { s with heap := (s.heap.push (seqObj "list" #[] 0)).update s.heap.objs.size (Obj.mapSeq (· ++ us.toArray)) }
  refine wpAny_bind (wpAny_load (get?_update_seq (Heap.get?_push_size _ rfl) _) ?_)
  show wpAny _ _ (pure ((#[] : Array Value) ++ us.toArray).toList) Q E _
  rw [show ((#[] : Array Value) ++ us.toArray).toList = us by simp]; exact wpAny_pure q
theorem sorted_tup {t : Addr} {us : List Value} {ms : List Int} {Q : Value → Shared → Prop} (ht : IsTup s.heap t us.toArray) (hI : IntsAre us ms) (h64 : us.length < 64)
    (q : ∀ (out : Array Value) (ms' : List Int), IntsAre out.toList ms' → ms'.Perm ms → ms'.Pairwise (· ≤ ·) → Q (.ref (s.heap.objs.size + 1)) { s with heap := sortedAll s.heap us out }) :
    wpAny (model prog w) A (call (.builtin "sorted") [.ref t]) Q E s := by
  refine Calls.call_function_entry kind_sorted plain_sorted entry_sorted (args_sorted1 _) ?_; unfold Builtin.«sorted»
  refine wpAny_bind (m := checkCount "sorted" 1 1 _) (wpAny_pure ?_)
  refine wpAny_bind (gather_tup ht (small64 h64) ?_); refine wpAny_bind (wpAny_newList ?_ (small64 h64))
  have k1 : ((s.heap.push (seqObj "list" #[] 0)).update s.heap.objs.size (Obj.mapSeq (· ++ us.toArray))).objs.size = s.heap.objs.size + 1 := by rw [Heap.size_update, size_push']
  have k2 : (((s.heap.push (seqObj "list" #[] 0)).update s.heap.objs.size (Obj.mapSeq (· ++ us.toArray))).push (seqObj "list" us.toArray 0)).get? (s.heap.objs.size + 1) = some (seqObj "list" us.toArray 0) := by rw [← k1]; exact Heap.get?_push_size _ rfl
  show wpAny _ _ _ _ _ { s with heap := ((s.heap.push (seqObj "list" #[] 0)).update s.heap.objs.size (Obj.mapSeq (· ++ us.toArray))).push (seqObj "list" us.toArray 0) }
  rw [k1]
  refine wpAny_bind (wpAny_holding (wpAny_call_entry slot_list_sort ⟨_, k2, rfl⟩ entry_list_sort (list_sort_tree k2 hI h64 fun out ms' a1 a2 a3 => ⟨_, rfl, ?_⟩) (args_list_sort _)))
  exact wpAny_pure ⟨_, rfl, q out ms' a1 a2 a3⟩
end
section
variable {X : Cx}
theorem cr_sortedTup : CallR X (.builtin "sorted") (fun vs H Q => ∃ (a : Addr) (ms : List Int), vs = [V.ref a] ∧ SqT X.K H a (ms.map V.int) ∧ ms.length < 64 ∧
    ∀ (ms' : List Int) (p : Addr), ms'.Perm ms → ms'.Pairwise (· ≤ ·) → H p = none → Q (.ref p) (upd H p (.lst (ms'.map V.int)))) := by
  intro pins s σ H vs us Q I r h
  obtain ⟨a, ms, rfl, hs, h64, q⟩ := h
  obtain ⟨its, rv, hl, _⟩ := I.tuple hs
  rw [Vals.ref1 r]
  have hi := rv.ints
  refine sorted_tup hl hi (by rw [hi.length]; exact h64) fun out ms' h1 h2 h3 => ?_
  obtain ⟨ep, he⟩ := PyProof.Rows.sortedAll_at s.heap its out
  have hlen : (ms'.map V.int).length ≤ sizeLine := by rw [List.length_map, h2.length_eq]; exact small64 h64
  exact ⟨.ref _, upd H (s.heap.objs.size + 1) (.lst (ms'.map V.int)), I.laid (t' := s.toks) (fun _ _ => sortedAll_old) (Nat.le_succ _) ⟨hlen, out.toList, ep, vals_of_ints h1, he⟩, rfl, q ms' _ h2 h3 (I.hok.fresh (Nat.le_succ _))⟩
end

/-! ### data that stands still: G is a part of the heap that nothing writes -/
mutual
inductive Dq (K : PySem.W.Frag) (G : Hp) : V → PyData → Prop
  | non : Dq K G .non .none
  | bl (b : Bool) : Dq K G (.bl b) (.bool b)
  | int (i : Int) : Dq K G (.int i) (.int i)
  | str (x : Str) : Dq K G (.str x) (.str x)
  | lst {a : Addr} {xs : List V} {ds : List PyData} : G a = some (.lst xs) → DqAll K G xs ds → Dq K G (.ref a) (.list ds)
  | tup {a : Addr} {xs : List V} {ds : List PyData} : G a = some (.tup xs) → DqAll K G xs ds → Dq K G (.ref a) (.tuple ds)
  | dct {a : Addr} {kvs : List (Key × V)} {ds : List (PyData × PyData)} : G a = some (.dK kvs) → DqAll K G (kvs.map fun kv => kV kv.1) (ds.map (·.1)) → DqAll K G (kvs.map (·.2)) (ds.map (·.2)) → Dq K G (.ref a) (.dict ds)
inductive DqAll (K : PySem.W.Frag) (G : Hp) : List V → List PyData → Prop
  | nil : DqAll K G [] []
  | cons {v : V} {vs : List V} {d : PyData} {ds : List PyData} : Dq K G v d → DqAll K G vs ds → DqAll K G (v :: vs) (d :: ds)
end
section
variable {K : PySem.W.Frag} {G G' H : Hp}
mutual
theorem Dq.mono (e : Same G G') : ∀ {v : V} {d : PyData}, Dq K G v d → Dq K G' v d
  | _, _, .non => .non
  | _, _, .bl b => .bl b
  | _, _, .int i => .int i
  | _, _, .str x => .str x
  | _, _, .lst h t => .lst (e _ _ h) (DqAll.mono e t)
  | _, _, .tup h t => .tup (e _ _ h) (DqAll.mono e t)
  | _, _, .dct h t u => .dct (e _ _ h) (DqAll.mono e t) (DqAll.mono e u)
theorem DqAll.mono (e : Same G G') : ∀ {vs : List V} {ds : List PyData}, DqAll K G vs ds → DqAll K G' vs ds
  | _, _, .nil => .nil
  | _, _, .cons h t => .cons (Dq.mono e h) (DqAll.mono e t)
end
theorem DqAll.append : ∀ {vs ws : List V} {ds es : List PyData}, DqAll K G vs ds → DqAll K G ws es → DqAll K G (vs ++ ws) (ds ++ es)
  | _, _, _, _, .nil, t => t
  | _, _, _, _, .cons h r, t => .cons h (DqAll.append r t)
theorem DqAll.get : ∀ {vs : List V} {ds : List PyData} {i : Nat} {v : V}, DqAll K G vs ds → vs[i]? = some v → ∃ d, ds[i]? = some d ∧ Dq K G v d
  | _, _, _, _, .nil, e => by simp at e
  | _, _, 0, _, .cons h _, e => by simp at e; subst e; exact ⟨_, rfl, h⟩
  | _, _, i + 1, v, .cons _ t, e => by
    obtain ⟨d, h1, h2⟩ := DqAll.get (i := i) (v := v) t (by simpa using e)
    exact ⟨d, by simpa using h1, h2⟩
theorem DqAll.len : ∀ {vs : List V} {ds : List PyData}, DqAll K G vs ds → vs.length = ds.length
  | _, _, .nil => rfl
  | _, _, .cons _ t => by rw [List.length_cons, List.length_cons, DqAll.len t]
theorem DqAll.drop : ∀ {vs : List V} {ds : List PyData} (n : Nat), DqAll K G vs ds → DqAll K G (vs.drop n) (ds.drop n)
  | _, _, 0, h => h
  | _, _, _ + 1, .nil => .nil
  | _, _, n + 1, .cons _ t => DqAll.drop n t
theorem DqAll.take : ∀ {vs : List V} {ds : List PyData} (n : Nat), DqAll K G vs ds → DqAll K G (vs.take n) (ds.take n)
  | _, _, 0, _ => .nil
  | _, _, _ + 1, .nil => .nil
  | _, _, n + 1, .cons h t => .cons h (DqAll.take n t)
theorem DqAll.rev : ∀ {vs : List V} {ds : List PyData}, DqAll K G vs ds → DqAll K G vs.reverse ds.reverse
  | _, _, .nil => .nil
  | _, _, .cons h t => by
    rw [List.reverse_cons, List.reverse_cons]
    exact DqAll.append (DqAll.rev t) (.cons h .nil)
theorem dq_ints (K : PySem.W.Frag) (G : Hp) : ∀ ns : List Int, DqAll K G (ns.map V.int) (ns.map PyData.int)
  | [] => .nil
  | n :: r => .cons (.int n) (dq_ints K G r)
end
mutual
def hasList : PyData → Bool
  | .list _ => true
  | .tuple xs => hasListAll xs
  | .dict kvs => hasListKv kvs
  | _ => false
def hasListAll : List PyData → Bool
  | [] => false
  | x :: xs => hasList x || hasListAll xs
def hasListKv : List (PyData × PyData) → Bool
  | [] => false
  | (k, v) :: r => hasList k || hasList v || hasListKv r
end
theorem hasListKv_split : ∀ kvs : List (PyData × PyData), hasListKv kvs = false → hasListAll (kvs.map (·.1)) = false ∧ hasListAll (kvs.map (·.2)) = false
  | [], _ => ⟨rfl, rfl⟩
  | (k, v) :: r, h => by
    simp only [hasListKv, Bool.or_eq_false_iff] at h
    obtain ⟨a, b⟩ := hasListKv_split r h.2
    simp only [List.map_cons, hasListAll, Bool.or_eq_false_iff]
    exact ⟨⟨h.1.1, a⟩, h.1.2, b⟩
section
variable {X : Cx} {pins : List (Addr × Obj)} {σ : L2.St} {H : Hp} {s : Shared}
theorem kv_keys {P : Program} {w : World} : ∀ {kvs : List (Key × V)} {vs : List (Key × Value)} {es : List DictEntry}, KV kvs vs → Pairs (mixKind P w) es vs → Vals (kvs.map fun kv => kV kv.1) (es.map (·.key)) ∧ Vals (kvs.map (·.2)) (es.map (·.val))
  | _, _, _, .nil, .nil => ⟨.nil, .nil⟩
  | (k, v) :: _, (k', v') :: _, _ :: _, .cons ⟨h1, h2⟩ t, .cons g1 g2 g3 => by
    obtain ⟨a, b⟩ := kv_keys t g3
    refine ⟨.cons ?_ a, .cons ?_ b⟩
    · have e : k = k' := h1
      subst e
      rcases keyIs_shape (show keyIs k _ = true from g1) with ⟨i, tk, rfl, e2⟩ | ⟨x, tk, rfl, e2⟩
      · exact ⟨tk, e2⟩
      · exact ⟨tk, e2⟩
    · have e2 : (_ : DictEntry).val = v' := g2
      show RelV v (DictEntry.val _)
      rw [e2]; exact h2
mutual
theorem Dq.reads (I : Inv X pins σ H s) : ∀ (d : PyData) (v : V) (u : Value), Dq X.K H v d → RelV v u → ∃ as, Reads s.heap u d as ∧ (hasList d = false → sysModules ∉ as)
  | .none, _, _, h, r => by cases h; cases r; exact ⟨_, Reads.none, fun _ z => nomatch z⟩
  | .bool b, _, _, h, r => by cases h; cases r; exact ⟨_, Reads.bool b, fun _ z => nomatch z⟩
  | .int i, _, _, h, r => by cases h; obtain ⟨t, rfl⟩ := r; exact ⟨_, Reads.int i t, fun _ z => nomatch z⟩
  | .str x, _, _, h, r => by cases h; obtain ⟨t, rfl⟩ := r; exact ⟨_, Reads.str x t, fun _ z => nomatch z⟩
  | .list ds, _, _, h, r => by
    cases h with
    | lst hs ha =>
      cases r
      obtain ⟨_, its, n, rv, ho⟩ := I.hok _ _ hs
      obtain ⟨as, hr, _⟩ := DqAll.reads I ds _ its ha rv
      exact ⟨_, Reads.list ho rfl rfl (by simpa using hr), fun z => nomatch z⟩
  | .tuple ds, _, _, h, r => by
    cases h with
    | tup hs ha =>
      cases r
      obtain ⟨_, its, rv, o, ho, hc, n, hd⟩ := I.hok _ _ hs
      obtain ⟨as, hr, hn⟩ := DqAll.reads I ds _ its ha rv
      exact ⟨_, Reads.tuple ho hc hd (by simpa using hr), fun z => hn (by simpa only [hasList] using z)⟩
  | .dict ds, _, _, h, r => by
    cases h with
    | dct hs hk hv =>
      rename_i a kvs
      cases r
      obtain ⟨_, hm, vs, rel, o, es, ep, ho, hx, hd, _, hp, _⟩ := I.hok _ _ hs
      obtain ⟨r1, r2⟩ := kv_keys rel hp
      obtain ⟨as, q1, n1⟩ := DqAll.readsK I ds _ _ hk r1
      obtain ⟨bs, q2, n2⟩ := DqAll.readsV I ds _ _ hv r2
      refine ⟨_, Reads.dict ho hx.1 hd q1 q2, fun z => ?_⟩
      obtain ⟨z1, z2⟩ := hasListKv_split ds (by simpa only [hasList] using z)
      intro hmem
      rcases List.mem_append.mp hmem with hmem | hmem
      · rcases List.mem_cons.mp hmem with e | e
        · rw [← e] at hm; simp at hm
        · exact n1 z1 e
      · exact n2 z2 hmem
theorem DqAll.reads (I : Inv X pins σ H s) : ∀ (ds : List PyData) (vs : List V) (us : List Value), DqAll X.K H vs ds → Vals vs us → ∃ as, ReadsAll s.heap us ds as ∧ (hasListAll ds = false → sysModules ∉ as)
  | [], _, _, h, r => by cases h; cases r; exact ⟨_, ReadsAll.nil, fun _ z => nomatch z⟩
  | d :: ds, _, _, h, r => by
    cases h with
    | cons h1 h2 =>
      cases r with
      | cons r1 r2 =>
        obtain ⟨as, q1, n1⟩ := Dq.reads I d _ _ h1 r1
        obtain ⟨bs, q2, n2⟩ := DqAll.reads I ds _ _ h2 r2
        refine ⟨_, ReadsAll.cons q1 q2, fun z hm => ?_⟩
        simp only [hasListAll, Bool.or_eq_false_iff] at z
        rcases List.mem_append.mp hm with e | e
        · exact n1 z.1 e
        · exact n2 z.2 e
theorem DqAll.readsK (I : Inv X pins σ H s) : ∀ (ds : List (PyData × PyData)) (vs : List V) (us : List Value), DqAll X.K H vs (ds.map (·.1)) → Vals vs us → ∃ as, ReadsAll s.heap us (ds.map (·.1)) as ∧ (hasListAll (ds.map (·.1)) = false → sysModules ∉ as)
  | [], _, _, h, r => by cases h; cases r; exact ⟨_, ReadsAll.nil, fun _ z => nomatch z⟩
  | (d, d') :: ds, _, _, h, r => by
    cases h with
    | cons h1 h2 =>
      cases r with
      | cons r1 r2 =>
        obtain ⟨as, q1, n1⟩ := Dq.reads I d _ _ h1 r1
        obtain ⟨bs, q2, n2⟩ := DqAll.readsK I ds _ _ h2 r2
        refine ⟨_, ReadsAll.cons q1 q2, fun z hm => ?_⟩
        simp only [List.map_cons, hasListAll, Bool.or_eq_false_iff] at z
        rcases List.mem_append.mp hm with e | e
        · exact n1 z.1 e
        · exact n2 z.2 e
theorem DqAll.readsV (I : Inv X pins σ H s) : ∀ (ds : List (PyData × PyData)) (vs : List V) (us : List Value), DqAll X.K H vs (ds.map (·.2)) → Vals vs us → ∃ as, ReadsAll s.heap us (ds.map (·.2)) as ∧ (hasListAll (ds.map (·.2)) = false → sysModules ∉ as)
  | [], _, _, h, r => by cases h; cases r; exact ⟨_, ReadsAll.nil, fun _ z => nomatch z⟩
  | (d, d') :: ds, _, _, h, r => by
    cases h with
    | cons h1 h2 =>
      cases r with
      | cons r1 r2 =>
        obtain ⟨as, q1, n1⟩ := Dq.reads I d' _ _ h1 r1
        obtain ⟨bs, q2, n2⟩ := DqAll.readsV I ds _ _ h2 r2
        refine ⟨_, ReadsAll.cons q1 q2, fun z hm => ?_⟩
        simp only [List.map_cons, hasListAll, Bool.or_eq_false_iff] at z
        rcases List.mem_append.mp hm with e | e
        · exact n1 z.1 e
        · exact n2 z.2 e
end
end
end My

namespace My
open PySem PySem.Spec PyProof.Rows L2
def topS (i : Nat) : Stmt := PySem.Challenge.pw_dustwithin_k69_shared_books_of_anything.main.body.getD i (.Pass ⟨0, 0, 0, 0⟩)
/-! ### the pen -/
structure PenAt (H : Hp) (p : Addr) (t : Nat) : Prop where
  ex : ∃ (c : Addr) (cells : List Int) (at' rest : Int), H p = some (.lst [.ref c, .int at', .int rest]) ∧ H c = some (.lst (cells.map V.int)) ∧ 0 ≤ at' ∧ at' ≤ (t : Int)
theorem ne_len {H : Hp} {p c : Addr} {xs ys : List V} (h : H p = some (.lst xs)) (g : H c = some (.lst ys)) (e : xs ≠ ys) : c ≠ p := by
  intro z; subst z; rw [h] at g; cases g; exact e rfl
theorem pen_ne {H : Hp} {p c : Addr} {x : Addr} {i j : Int} {cells : List Int} (h : H p = some (.lst [.ref x, .int i, .int j])) (g : H c = some (.lst (cells.map V.int))) : c ≠ p :=
  ne_len h g (by intro z; cases cells with | nil => cases z | cons a r => cases z)
def But (p : Addr) (H H' : Hp) : Prop := ∀ b o, b ≠ p → H b = some o → H' b = some o
theorem But.of {p : Addr} {H H' : Hp} (e : Same H H') : But p H H' := fun b o _ => e b o
theorem But.trans {p : Addr} {H H1 H2 : Hp} (a : But p H H1) (b : But p H1 H2) : But p H H2 := fun c o n h => b c o n (a c o n h)
theorem But.upd {p : Addr} {H : Hp} {o : HO} : But p H (upd H p o) := fun b u n h => by rw [upd_ne n]; exact h
theorem PenAt.same {H H' : Hp} {p : Addr} {t u : Nat} (e : Same H H') (h : t ≤ u) (P : PenAt H p t) : PenAt H' p u := by
  obtain ⟨c, cells, x, y, h1, h2, h3, h4⟩ := P.ex
  exact ⟨c, cells, x, y, e _ _ h1, e _ _ h2, h3, by omega⟩
theorem Same.upd {H : Hp} {p : Addr} {o : HO} (n : H p = none) : Same H (upd H p o) := fun b u h => by rw [upd_ne (ne_of_none h n)]; exact h
structure PenC (H : Hp) (p c : Addr) (t : Nat) : Prop where
  ex : ∃ (cells : List Int) (at' rest : Int), H p = some (.lst [.ref c, .int at', .int rest]) ∧ H c = some (.lst (cells.map V.int)) ∧ 0 ≤ at' ∧ at' ≤ (t : Int)
theorem PenC.any {H : Hp} {p c : Addr} {t : Nat} (h : PenC H p c t) : PenAt H p t := by
  obtain ⟨cells, x, y, h⟩ := h.ex
  exact ⟨c, cells, x, y, h⟩
theorem PenAt.c {H : Hp} {p : Addr} {t : Nat} (h : PenAt H p t) : ∃ c, PenC H p c t := by
  obtain ⟨c, cells, x, y, h⟩ := h.ex
  exact ⟨c, cells, x, y, h⟩
theorem PenC.same {H H' : Hp} {p c : Addr} {t u : Nat} (e : Same H H') (h : t ≤ u) (P : PenC H p c t) : PenC H' p c u := by
  obtain ⟨cells, x, y, h1, h2, h3, h4⟩ := P.ex
  exact ⟨cells, x, y, e _ _ h1, e _ _ h2, h3, by omega⟩
theorem PenC.at_c {H : Hp} {p c : Addr} {t : Nat} (h : PenC H p c t) : H c ≠ none := by
  obtain ⟨cells, x, y, h1, h2, _⟩ := h.ex
  rw [h2]; exact fun z => nomatch z
theorem PenC.upd {H : Hp} {p c : Addr} {t u : Nat} (P : PenC H p c t) {q : Addr} (h1 : q ≠ p) (h2 : q ≠ c) (h : t ≤ u) (o : HO) : PenC (upd H q o) p c u := by
  obtain ⟨cells, x, y, g1, g2, g3, g4⟩ := P.ex
  exact ⟨cells, x, y, by rw [upd_ne h1.symm]; exact g1, by rw [upd_ne h2.symm]; exact g2, g3, by omega⟩
/-! ### promises -/
def spSpread : Sp := fun vs H Q _ => ∃ (c a : Int), vs = [.int c, .int a] ∧ 0 ≤ a ∧ a < 2 ^ 30 ∧ ∀ (r : Int) (H' : Hp), Same H H' → Q (.int r) H'
def spOpen (K : PySem.W.Frag) : Sp := fun vs H Q _ => ∃ (a : Addr) (ns : List Int), vs = [.ref a] ∧ SqL K H a (ns.map V.int) ∧ ns.length ≤ 63 ∧ ∀ (p : Addr) (H' : Hp), H p = none → Same H H' → PenAt H' p 0 → Q (.ref p) H'
def spTake : Sp := fun vs H Q _ => ∃ (p : Addr) (n : Int) (t : Nat), vs = [.ref p, .int n] ∧ 0 < n ∧ n.natAbs < 2 ^ 8000 ∧ PenAt H p t ∧ t < 2 ^ 29 ∧ ∀ (m : Int) (H' : Hp), 0 ≤ m → m < n → But p H H' → PenAt H' p (t + 1) → Q (.int m) H'
def spTakeC : Sp := fun vs H Q _ => ∃ (p c : Addr) (n : Int) (t : Nat), vs = [.ref p, .int n] ∧ 0 < n ∧ n.natAbs < 2 ^ 8000 ∧ PenC H p c t ∧ t < 2 ^ 29 ∧ ∀ (m : Int) (H' : Hp), 0 ≤ m → m < n → But p H H' → PenC H' p c (t + 1) → Q (.int m) H'
section
variable {P : Program} {w : World} {K : PySem.W.Frag} {mg : Str → Option Value} {base : Heap}
def primesV : List V := [.int 2147483629, .int 2147483587, .int 2147483579, .int 2147483563, .int 2147483549, .int 2147483543, .int 2147483497, .int 2147483489] ++ [.int 2147483477, .int 2147483423, .int 2147483399, .int 2147483353, .int 2147483323]
theorem prime_at {j : Int} (h0 : 0 ≤ j) (h1 : j < 13) : ∃ q : Int, atI primesV j = some (.int q) ∧ 0 < q ∧ q < 2147483648 := by
  have h : j = 0 ∨ j = 1 ∨ j = 2 ∨ j = 3 ∨ j = 4 ∨ j = 5 ∨ j = 6 ∨ j = 7 ∨ j = 8 ∨ j = 9 ∨ j = 10 ∨ j = 11 ∨ j = 12 := by omega
  rcases h with rfl | rfl | rfl | rfl | rfl | rfl | rfl | rfl | rfl | rfl | rfl | rfl | rfl <;> exact ⟨_, rfl, by decide, by decide⟩
theorem mod_at {x : Int} : 0 ≤ x % 13 ∧ x % 13 < 13 := ⟨Int.emod_nonneg _ (by decide), Int.emod_lt_of_pos _ (by decide)⟩
theorem mod_lt {x q : Int} (h : 0 < q) (h2 : q < 2147483648) : 0 ≤ x % q ∧ x % q < 2147483648 := ⟨Int.emod_nonneg _ (by omega), by have := Int.emod_lt_of_pos x h; omega⟩
theorem pow_ok {i : Int} {j : Int} (hj : j = 3 ∨ j = 5) (h0 : 0 ≤ i) (h1 : i < 2 ^ 64) : CPow i j := by
  refine ⟨by omega, by omega, ?_⟩
  omega
theorem nat_at {xs : List Int} {i : Int} (h0 : 0 ≤ i) (h1 : i < xs.length) : ∃ v : Int, atI (xs.map V.int) i = some (.int v) := by
  obtain ⟨j, rfl⟩ : ∃ j : Nat, i = (j : Int) := ⟨i.toNat, by omega⟩
  have hj : j < xs.length := by omega
  exact ⟨xs[j], atI_nat (by rw [List.getElem?_map, List.getElem?_eq_getElem hj]; rfl)⟩
theorem mapInt_len (xs : List Int) : ((xs.map V.int).length : Int) = (xs.length : Int) := by rw [List.length_map]
theorem cut_ints (ns : List Int) (lo hi : Option Int) : ∃ ms : List Int, cutV (ns.map V.int) lo hi = ms.map V.int ∧ ms = (ns.drop (HT.sIx ns.length 0 lo)).take (HT.sIx ns.length ns.length hi - HT.sIx ns.length 0 lo) := by
  refine ⟨_, ?_, rfl⟩
  unfold cutV
  rw [List.length_map, List.map_take, List.map_drop]
theorem sIx_nat (n : Nat) (d : Nat) (k : Nat) : HT.sIx n d (some (k : Int)) = min k n := by
  unfold HT.sIx
  simp only
  rw [if_neg (by omega)]
  omega
theorem cut12 (ns : List Int) : ∃ ms : List Int, cutV (ns.map V.int) none (some 12) = ms.map V.int ∧ ms.length = min 12 ns.length := by
  obtain ⟨ms, h1, h2⟩ := cut_ints ns none (some 12)
  refine ⟨ms, h1, ?_⟩
  rw [h2, List.length_take, List.length_drop]
  have a1 : HT.sIx ns.length 0 none = 0 := rfl
  have a2 : HT.sIx ns.length ns.length (some 12) = min 12 ns.length := sIx_nat _ _ 12
  rw [a1, a2]; omega
theorem cut63 (ns : List Int) : ∃ ms : List Int, cutV (ns.map V.int) (some 12) (some 63) = ms.map V.int ∧ ms.length ≤ ns.length - 12 := by
  obtain ⟨ms, h1, h2⟩ := cut_ints ns (some 12) (some 63)
  refine ⟨ms, h1, ?_⟩
  rw [h2, List.length_take, List.length_drop]
  have a1 : HT.sIx ns.length 0 (some 12) = min 12 ns.length := sIx_nat _ _ 12
  have a2 : HT.sIx ns.length ns.length (some 63) = min 63 ns.length := sIx_nat _ _ 63
  rw [a1, a2]; omega
theorem set_ints (ns : List Int) (j : Nat) (v : Int) : (ns.map V.int).set j (.int v) = (ns.set j v).map V.int := by rw [List.map_set]
end
end My

namespace My
open PySem PySem.Spec PyProof.Rows L2
/-! ### t[::-1] -/
section
variable {prog : Program} {w : World} {A : Around} {E : Value → Shared → Prop} {s : Shared}
theorem backwards (xs : Array Value) : ((List.range xs.size).filterMap fun (m : Nat) => xs[((xs.size : Int) - 1 + (m : Int) * -1).toNat]?).toArray = xs.toList.reverse.toArray := by
  have e1 : (List.range xs.size).filterMap (fun (m : Nat) => xs[((xs.size : Int) - 1 + (m : Int) * -1).toNat]?) = ((List.range xs.size).map fun k => xs.size - 1 - k).filterMap (xs[·]?) := by
    rw [List.filterMap_map]
    congr 1
    funext m
    show _ = xs[xs.size - 1 - m]?
    have : ((xs.size : Int) - 1 + (m : Int) * -1).toNat = xs.size - 1 - m := by omega
    rw [this]
  rw [e1, PySem.W.krv_range, List.filterMap_reverse, PySem.W.krv_all]
theorem getItem_back {t sl : Addr} {items : Array Value} {tk : Tok} {Q : Value → Shared → Prop} (ht : IsTup s.heap t items) (hs : s.heap.IsSliceOf sl .none .none (.int (-1) tk)) (hsz : items.size ≤ sizeLine)
    (q : Q (.ref s.heap.objs.size) { s with heap := s.heap.push { cls := .type "tuple", data := .seq items.toList.reverse.toArray } }) : wpAny (model prog w) A (getItem (.ref t) (.ref sl)) Q E s := by
  have hfit : sizeOk (.seq items.toList.reverse.toArray) := by show items.toList.reverse.toArray.size ≤ sizeLine; simpa using hsz
  obtain ⟨ob, hob, hcl, hdat⟩ := id hs
  have hT : s.TypeIs (.ref sl) "slice" := ⟨ob, hob, hcl⟩
  unfold getItem; try with_reducible refine wpAny_holding ?_
  first | refine wpAny_bind (wpAny_pure ?_) | skip
  refine wpAny_bind (wpAny_sequenceKey ht.typeIs (by decide) ?_); refine wpAny_bind (wpAny_callSpecial?_slot (name := Str.ofString "__getitem__") ht.typeIs slot_tuple_getitem (wpAny_call_entry slot_tuple_getitem ht.typeIs entry_tuple_getitem ?_ (args_tuple_getitem _ _)))
  show wpAny _ _ (Builtin.Tuple.tupleItemsOf (.ref t) >>= _) _ _ s; refine wpAny_bind (tupleItemsOf_ ht ?_); refine wpAny_bind (wpAny_typeOf hT ?_); rw [if_pos (by decide)]
  have step : ∀ {R : Int × Int × Nat → Shared → Prop}, R ((items.size : Int) - 1, -1, items.size) s → wpAny (model prog w) A.in1 (Builtin.Slice.sliceApplied (.ref sl) (pure (items.size : Int))) R E s := by
    intro R hR; unfold Builtin.Slice.sliceApplied Builtin.Slice.sliceFields
    refine wpAny_bind (wpAny_bind (wpAny_field hob hdat (x := .none) rfl (wpAny_bind (wpAny_field hob hdat (x := .none) rfl (wpAny_bind (wpAny_field hob hdat (x := .int (-1) tk) rfl (wpAny_pure ?_)))))))
    refine wpAny_bind (slicePart_int ?_); show wpAny _ _ (if ((-1 : Int) == 0) = true then _ else _) _ _ s; rw [if_neg (by decide)]
    refine wpAny_bind (PyProof.Rows.slicePart_none (wpAny_bind (PyProof.Rows.slicePart_none (wpAny_bind (wpAny_pure ?_)))))
    show wpAny _ _ (match Builtin.Slice.sliceAdjust none none (-1) (items.size : Int) with | (lo, hi) => pure (lo, (-1 : Int), Builtin.Slice.slicePlaces lo hi (-1))) _ _ s
    have e1 : Builtin.Slice.sliceAdjust none none (-1) (items.size : Int) = ((items.size : Int) - 1, -1) := rfl
    rw [e1]; show wpAny _ _ (pure ((items.size : Int) - 1, (-1 : Int), Builtin.Slice.slicePlaces ((items.size : Int) - 1) (-1) (-1))) _ _ s
    have e2 : Builtin.Slice.slicePlaces ((items.size : Int) - 1) (-1) (-1) = items.size := by
      unfold Builtin.Slice.slicePlaces
      have h1 : ¬ ((-1 : Int) > 0) := by decide
      simp only [h1, if_false]
      by_cases h : (items.size : Int) - 1 > -1
      · rw [if_pos h, show (- -1 : Int) = 1 by decide, Int.ediv_one]; omega
      · rw [if_neg h]; omega
    rw [e2]; exact wpAny_pure hR
  refine wpAny_bind (step ?_)
  show wpAny _ _ (if (((items.size : Int) - 1) == 0 && (-1 : Int) == 1 && items.size == items.size) = true then _ else _) _ _ s
  rw [if_neg (by rw [show ((-1 : Int) == 1) = false by decide, Bool.and_false, Bool.false_and]; decide), backwards]
  first
    | exact wpAny_bind (m := Builtin.Tuple.tupleExact _) (wpAny_newObj_type (wpAny_pure ⟨_, rfl, wpAny_pure q⟩) hfit)
    | exact wpAny_bind (m := Builtin.Tuple.tupleExact _) (wpAny_newObj_type (wpAny_bind (wpAny_pure (wpAny_pure ⟨_, rfl, wpAny_pure q⟩))) hfit)
    | exact wpAny_bind (wpAny_bind (m := Builtin.Tuple.tupleExact _) (wpAny_newObj_type (wpAny_pure (wpAny_pure ⟨_, rfl, wpAny_pure q⟩)) hfit))
    | exact wpAny_bind (wpAny_bind (m := Builtin.Tuple.tupleExact _) (wpAny_newObj_type (wpAny_pure ⟨_, rfl, wpAny_pure q⟩) hfit))
end
section
variable {X : Cx}
def tRevT (K : PySem.W.Frag) (te : TE) : TE := fun σ H Q => te σ H fun x H1 => ∃ a xs, x = .ref a ∧ SqT K H1 a xs ∧ ∀ p, H1 p = none → Q (.ref p) (upd H1 p (.tup xs.reverse))
theorem pe_revT {e : Expr} {te : TE} {k : Nat} {p1 p2 p3 pos : Pos} (he : PE X e te) : PE X (.Subscript e (.Slice none none (some (.UnaryOp .USub (.Constant (.int 1) k p1) p2)) p3) pos) (tRevT X.K te) := by
  refine ⟨fun pins s σ H Q I h => ?_⟩
  refine Subscript_ (thn (he.run pins s σ H _ I h) fun v s1 ⟨x, H1, I1, r1, q1⟩ => ?_)
  obtain ⟨a, xs, ex, hx, q⟩ := q1
  subst ex; cases r1
  have hst : PO X (some (.UnaryOp .USub (.Constant (.int 1) k p1) p2)) (tPart (tUn (rU fun i => .int (-i)) (tC (.int 1)))) := po_some (pe_un un_neg pe_int)
  refine wpAny_Slice (thn (po_none.run pins s1 σ H1 (fun o H2 => o = none ∧ H2 = H1) I1 ⟨rfl, rfl⟩) fun vl s2 ⟨l, H2, I2, pl, el, e2⟩ => ?_)
  subst el e2
  refine thn (po_none.run pins s2 σ H2 (fun o H3 => o = none ∧ H3 = H2) I2 ⟨rfl, rfl⟩) fun vu s3 ⟨u, H3, I3, pu, eu, e3⟩ => ?_
  subst eu e3
  refine thn (hst.run pins s3 σ H3 (fun o H4 => o = some (-1) ∧ H4 = H3) I3 ⟨1, rfl, -1, rfl, rfl, rfl⟩) fun vs s4 ⟨o, H4, I4, ps, eo, e4⟩ => ?_
  subst eo e4
  cases pl; cases pu; cases ps with
  | int i tk =>
  have J : Inv X pins σ H4 { s4 with heap := s4.heap.push { cls := .type "slice", data := .fields #[.none, .none, .int (-1) tk] } } := I4.kept (t' := s4.toks) fun b ob q => Heap.get?_push_of_some _ q
  obtain ⟨its, r, ht, hz⟩ := J.tuple hx
  have hl := r.length
  show wpAny (model X.prog X.w) X.A (subscriptTail e (.Slice none none (some (.UnaryOp .USub (.Constant (.int 1) k p1) p2)) p3) (.ref a) (.ref s4.heap.objs.size)) (EP X pins σ Q) X.xe { s4 with heap := s4.heap.push { cls := .type "slice", data := .fields #[.none, .none, .int (-1) tk] } }
  refine tail_any (ops := [.ref a, .ref s4.heap.objs.size]) ht.typeIs (slot_tuple_getitem.lookup) ?_ (by with_unfolding_all rfl)
  refine getItem_back ht (Heap.IsSliceOf.new _ .none .none (.int (-1) tk)) (by rw [List.size_toArray]; omega) ?_
  refine ⟨.ref _, _, J.laid (t' := s4.toks) (o := .tup xs.reverse) (fun b ob q => Heap.get?_push_of_some _ q) (Nat.le_refl _) ?_, rfl, q _ (J.hok.fresh (Nat.le_refl _))⟩
  exact ⟨by rw [List.length_reverse]; exact hz, _, r.reverse, IsTup.new _ _⟩
end
/-! ### repr -/
section
variable {X : Cx}
def rRepr (K : PySem.W.Frag) : List V → Hp → VK → Prop := fun xs H Q => ∃ (v : V) (d : PyData) (G : Hp), xs = [v] ∧ Same G H ∧ Dq K G v d ∧ d.showable = true ∧ (d.hasDict = true → hasList d = false) ∧ d.depth ≤ 100 ∧ d.shown.length ≤ sizeLine ∧ Q (.str d.shown) H
theorem cr_repr (hg : X.A.guards = some []) (hu : X.A.units + 111 < cLine) : CallR X (.builtin "repr") (rRepr X.K) := by
  intro pins s σ H xs us Q I r h
  obtain ⟨v, d, G, rfl, e, h, hs, hm, hd, hz, q⟩ := h
  have h' := h.mono e
  have key : ∀ a : Addr, us = [.ref a] → RelV v (.ref a) → wpAny (model X.prog X.w) X.A (call (.builtin "repr") us) (EP X pins σ Q) X.xe s := fun a ea ra => by
    subst ea
    obtain ⟨as, hr, hn⟩ := Dq.reads I d v _ h' ra
    exact repr_of_reads' hr hs (fun z => hn (hm z)) hg (by omega) (fun _ _ e => e) (fun h2 u tk hk => ⟨.str _, H, I.kept hk, ⟨_, rfl⟩, q⟩) hz
  cases r with
  | cons r0 rr =>
    cases rr
    cases h with
    | non => cases r0; exact PySem.P.repr_of_none ⟨.str _, H, I.tok _, ⟨_, rfl⟩, q⟩
    | bl b => cases r0; exact PySem.P.repr_of_bool ⟨.str _, H, I.tok _, ⟨_, rfl⟩, q⟩
    | int i =>
      obtain ⟨t, rfl⟩ := r0
      exact PySem.P.repr_of_int (by simpa [PyData.showable] using hs) ⟨.str _, H, I.tok _, ⟨_, rfl⟩, q⟩
    | str x =>
      obtain ⟨t, rfl⟩ := r0
      exact PySem.P.repr_of_str ⟨.str _, H, I.tok _, ⟨_, rfl⟩, q⟩ hz
    | lst _ _ => cases r0; exact key _ rfl rfl
    | tup _ _ => cases r0; exact key _ rfl rfl
    | dct _ _ _ => cases r0; exact key _ rfl rfl
end
/-! ### data made by an expression -/
structure Nw (G H G' H' : Hp) : Prop where
  gg : Same G G'
  gh : Same G' H'
  hh : Same H H'
  old : ∀ b, H b ≠ none → G' b = G b
theorem Nw.refl {G H : Hp} (e : Same G H) : Nw G H G H := ⟨Same.refl _, e, Same.refl _, fun _ _ => rfl⟩
theorem Nw.trans {G H G1 H1 G2 H2 : Hp} (a : Nw G H G1 H1) (b : Nw G1 H1 G2 H2) : Nw G H G2 H2 := by
  refine ⟨a.gg.trans b.gg, b.gh, a.hh.trans b.hh, fun c h => ?_⟩
  have h1 : H1 c ≠ none := by
    cases q : H c with
    | none => exact absurd q h
    | some o => rw [a.hh c o q]; exact fun z => nomatch z
  rw [b.old c h1, a.old c h]
theorem Nw.mk1 {G H : Hp} (e : Same G H) {p : Addr} (n : H p = none) (o : HO) : Nw G H (upd G p o) (upd H p o) := by
  refine ⟨Same.upd (e.free n), fun b u h => ?_, Same.upd n, fun b h => upd_ne (fun z => h (by rw [z]; exact n))⟩
  by_cases hb : b = p
  · subst hb; rw [upd_same] at h ⊢; exact h
  · rw [upd_ne hb] at h ⊢; exact e b u h
theorem PE.imp {X : Cx} {e : Expr} {t t' : TE} (h : PE X e t) (i : ∀ σ H Q, t' σ H Q → t σ H Q) : PE X e t' := ⟨fun pins s σ H Q I q => h.run pins s σ H Q I (i σ H Q q)⟩
theorem PA.imp {X : Cx} {es : List Expr} {t t' : TA} (h : PA X es t) (i : ∀ σ H Q, t' σ H Q → t σ H Q) : PA X es t' := ⟨fun pos pins s σ H Q I q => h.run pos pins s σ H Q I (i σ H Q q)⟩
def tDc (K : PySem.W.Frag) (d : PyData) : TE := fun _ H Q => ∃ G, Same G H ∧ ∀ v G' H', Nw G H G' H' → Dq K G' v d → Q v H'
def tDcs (K : PySem.W.Frag) (ds : List PyData) : TA := fun _ H Q => ∃ G, Same G H ∧ ∀ vs G' H', Nw G H G' H' → DqAll K G' vs ds → Q vs H'
section
variable {X : Cx} {pos : Pos}
theorem dc_int {i : Int} {j : Nat} : PE X (.Constant (.int i) j pos) (tDc X.K (.int i)) := PE.imp pe_int fun _ _ _ ⟨_, e, k⟩ => k _ _ _ (Nw.refl e) (.int i)
theorem dc_str {x : Str} {j : Nat} : PE X (.Constant (.str x) j pos) (tDc X.K (.str x)) := PE.imp pe_str fun _ _ _ ⟨_, e, k⟩ => k _ _ _ (Nw.refl e) (.str x)
theorem dc_bl {b : Bool} {j : Nat} : PE X (.Constant (.bool b) j pos) (tDc X.K (.bool b)) := PE.imp pe_bl fun _ _ _ ⟨_, e, k⟩ => k _ _ _ (Nw.refl e) (.bl b)
theorem dc_non {j : Nat} : PE X (.Constant .none j pos) (tDc X.K .none) := PE.imp pe_non fun _ _ _ ⟨_, e, k⟩ => k _ _ _ (Nw.refl e) .non
theorem dc_neg {i : Int} {j : Nat} {p : Pos} : PE X (.UnaryOp .USub (.Constant (.int i) j p) pos) (tDc X.K (.int (-i))) := PE.imp (pe_un un_neg pe_int) fun _ _ _ ⟨_, e, k⟩ => ⟨i, rfl, k _ _ _ (Nw.refl e) (.int _)⟩
theorem dc_pow {i j : Int} {a b : Nat} {p q : Pos} (h : CPow i j) : PE X (.BinOp (.Constant (.int i) a p) .Pow (.Constant (.int j) b q) pos) (tDc X.K (.int (i ^ j.toNat))) :=
  PE.imp (pe_op op_pow pe_int pe_int) fun _ _ _ ⟨_, e, k⟩ => ⟨i, j, rfl, rfl, h, k _ _ _ (Nw.refl e) (.int _)⟩
theorem das_nil : PA X [] (tDcs X.K []) := PA.imp pa_nil fun _ _ _ ⟨_, e, k⟩ => k _ _ _ (Nw.refl e) .nil
theorem das_cons {e : Expr} {es : List Expr} {d : PyData} {ds : List PyData} (h1 : PE X e (tDc X.K d)) (h2 : PA X es (tDcs X.K ds)) (hs : starEach (e :: es) X.env = (false, eval e X.env) :: starEach es X.env := by rfl) : PA X (e :: es) (tDcs X.K (d :: ds)) :=
  PA.imp (pa_cons h1 h2 hs) fun _ _ _ ⟨G, e, k⟩ => ⟨G, e, fun _ G1 _ n1 d1 => ⟨G1, n1.gh, fun _ _ _ n2 d2 => k _ _ _ (n1.trans n2) (.cons (d1.mono n2.gg) d2)⟩⟩
theorem dc_tup {es : List Expr} {ds : List PyData} {x1} (h : PA X es (tDcs X.K ds)) (hl : ds.length ≤ sizeLine) : PE X (.Tuple es x1 pos) (tDc X.K (.tuple ds)) :=
  PE.imp (pe_tup h) fun _ _ _ ⟨G, e, k⟩ => ⟨G, e, fun vs G1 H1 n1 d1 => ⟨by rw [d1.len]; exact hl, fun p np => k _ _ _ (n1.trans (Nw.mk1 n1.gh np (.tup vs))) (.tup upd_same (d1.mono (Nw.mk1 n1.gh np (.tup vs)).gg))⟩⟩
theorem dc_lst {es : List Expr} {ds : List PyData} (h : PA X es (tDcs X.K ds)) (hl : ds.length ≤ sizeLine) : PE X (.List es pos) (tDc X.K (.list ds)) :=
  PE.imp (pe_lst h) fun _ _ _ ⟨G, e, k⟩ => ⟨G, e, fun vs G1 H1 n1 d1 => ⟨by rw [d1.len]; exact hl, fun p np => k _ _ _ (n1.trans (Nw.mk1 n1.gh np (.lst vs))) (.lst upd_same (d1.mono (Nw.mk1 n1.gh np (.lst vs)).gg))⟩⟩
theorem dc_dict0 : PE X (.Dict [] [] pos) (tDc X.K (.dict [])) :=
  PE.imp pe_dnewK fun _ _ _ ⟨G, e, k⟩ => fun p np => k _ _ _ (Nw.mk1 e np (.dK [])) (.dct upd_same .nil .nil)
theorem dc_dict01 {a b c d : Nat} {p1 p2 p3 p4 : Pos} : PE X (.Dict [some (.Constant (.int 0) a p1), some (.Constant (.int 1) b p2)] [.Constant (.int 1) c p3, .Constant (.int 1) d p4] pos) (tDc X.K (.dict [(.int 0, .int 1), (.int 1, .int 1)])) := by
  refine PE.imp (pe_disp (pps_cons pe_int pe_int (pps_cons pe_int pe_int pps_nil)) rfl rfl (by simp) (by show 2 ≤ 15; decide)) fun _ H Q ⟨G, e, k⟩ => fun p np => ?_
  refine ⟨upd_same, [(.inl 0, .int 1), (.inl 1, .int 1)], rfl, by decide, ?_⟩
  rw [upd_upd]
  exact k _ _ _ (Nw.mk1 e np (.dK [(.inl 0, .int 1), (.inl 1, .int 1)])) (.dct upd_same (.cons (.int _) (.cons (.int _) .nil)) (.cons (.int _) (.cons (.int _) .nil)))
end
/-! ### types of data -/
def tyN : PyData → String
  | .none => "NoneType"
  | .bool _ => "bool"
  | .int _ => "int"
  | .str _ => "str"
  | .list _ => "list"
  | .tuple _ => "tuple"
  | .dict _ => "dict"
theorem Dq.ty {K : PySem.W.Frag} {G H : Hp} (e : Same G H) : ∀ {v : V} {d : PyData}, Dq K G v d → TyX K H v (.type (tyN d))
  | _, _, .non => .base .non
  | _, _, .bl b => .base (.bl b)
  | _, _, .int i => .base (.int i)
  | _, _, .str x => .base (.str x)
  | _, _, .lst h _ => .base (.lst (e _ _ h))
  | _, _, .tup h _ => .base (.tup (e _ _ h))
  | _, _, .dct h _ _ => .base (.dK (e _ _ h))
def isT (T : String) (d : PyData) : Bool := tyN d == T
theorem kit_int : ∀ d : PyData, kitB (tyN d) "int" = some (isT "int" d || isT "bool" d)
  | .none => by decide +kernel
  | .bool _ => (by decide +kernel : kitB "bool" "int" = some true)
  | .int _ => (by decide +kernel : kitB "int" "int" = some true)
  | .str _ => (by decide +kernel : kitB "str" "int" = some false)
  | .list _ => (by decide +kernel : kitB "list" "int" = some false)
  | .tuple _ => (by decide +kernel : kitB "tuple" "int" = some false)
  | .dict _ => (by decide +kernel : kitB "dict" "int" = some false)
theorem kit_bool : ∀ d : PyData, kitB (tyN d) "bool" = some (isT "bool" d)
  | .none => by decide +kernel
  | .bool _ => (by decide +kernel : kitB "bool" "bool" = some true)
  | .int _ => (by decide +kernel : kitB "int" "bool" = some false)
  | .str _ => (by decide +kernel : kitB "str" "bool" = some false)
  | .list _ => (by decide +kernel : kitB "list" "bool" = some false)
  | .tuple _ => (by decide +kernel : kitB "tuple" "bool" = some false)
  | .dict _ => (by decide +kernel : kitB "dict" "bool" = some false)
theorem kit_tuple : ∀ d : PyData, kitB (tyN d) "tuple" = some (isT "tuple" d)
  | .none => by decide +kernel
  | .bool _ => (by decide +kernel : kitB "bool" "tuple" = some false)
  | .int _ => (by decide +kernel : kitB "int" "tuple" = some false)
  | .str _ => (by decide +kernel : kitB "str" "tuple" = some false)
  | .list _ => (by decide +kernel : kitB "list" "tuple" = some false)
  | .tuple _ => (by decide +kernel : kitB "tuple" "tuple" = some true)
  | .dict _ => (by decide +kernel : kitB "dict" "tuple" = some false)
theorem isi_read {K : PySem.W.Frag} {G H : Hp} {v : V} {d : PyData} {T : String} {b : Bool} {Q : VK} (e : Same G H) (h : Dq K G v d) (hk : kitB (tyN d) T = some b) (q : Q (.bl b) H) : rIsi K [v, .ty T] H Q :=
  ⟨v, .ty T, .type (tyN d), .type T, b, rfl, .ty T, h.ty e, kit_ty hk, q⟩
theorem PenAt.some {H : Hp} {p : Addr} {t : Nat} (h : PenAt H p t) : H p ≠ none := by
  obtain ⟨c, cells, x, y, h1, _⟩ := h.ex
  rw [h1]; exact fun z => nomatch z
theorem pen_not {H : Hp} {p l : Addr} {t : Nat} (h : PenAt H p t) (n : H l = none) : l ≠ p := fun z => h.some (by rw [← z]; exact n)
theorem keep_ne {H H1 : Hp} (e : Same H H1) {c : Addr} (h : H c ≠ none) : H1 c ≠ none := by
  cases z : H c with
  | none => exact absurd z h
  | some o => rw [e c o z]; exact fun y => nomatch y
theorem lst_new {G H G1 H1 : Hp} (m : Nw G H G1 H1) {q : Addr} (n : H1 q = none) (o : HO) : Nw G H G1 (upd H1 q o) :=
  ⟨m.gg, m.gh.trans (Same.upd n), m.hh.trans (Same.upd n), m.old⟩
theorem same_but {G H H' : Hp} {p : Addr} (e : Same G H) (n : G p = none) (b : But p H H') : Same G H' := fun a o h => b a o (ne_of_none h n) (e a o h)
theorem ifF {c : Bool} {A B : Prop} (h : c = false) (q : B) : if c = true then A else B := by rw [h]; exact iteF q
theorem ifT {c : Bool} {A B : Prop} (h : c = true) (q : A) : if c = true then A else B := by rw [h]; exact iteT q
theorem some_ne {H : Hp} {b : Addr} {o : HO} (h : H b = some o) : H b ≠ none := by rw [h]; exact fun z => nomatch z
theorem same0 (H : Hp) : Same (fun _ => none) H := fun _ _ h => nomatch h
/-! ### the law's own call: what runs around it is known (no repr is under way) -/
def AtTop (P : Program) (w : World) (K : PySem.W.Frag) (mg : Str → Option Value) (base : Heap) (fa : Addr) (fd : FuncData) (ps : List Str) (sp : Sp) : Prop :=
  ∀ (out : List Env) (s : Shared) (H : Hp) (args : Args) (us : List Value) (vs : List V) (Q : VK) (E : XK), Env0 P w K mg base callerA out s H → BindsTo s fd args (ps.zip us) → Vals vs us → sp vs H Q E → codeAny (model P w) callerA (.call (.ref fa) args) (CR CX0 out P w H s Q E) s
theorem top_ok {P : Program} {w : World} {K : PySem.W.Frag} {mg : Str → Option Value} {base : Heap} {x qual : Str} {st : Stmt} {f : Addr} {fd : FuncData} {N ps : List Str} {k : Nat} {sp : Sp} (F : Fun K x qual st f fd) (S : FnScope N ps (defScope st)) (len : ∀ vs H Q E, sp vs H Q E → vs.length = ps.length) (hr : Room (k + 1) callerA)
    (hbody : ∀ (cdv : Value) (out : List Env) (s : Shared) (H : Hp) (vs : List V) (Q : VK) (E : XK), Room k (callerA.deeper (envOfC qual (defScope st) s.heap.objs.size f cdv)) → sp vs H Q E →
      ∃ t, PSs (cxOf CX0 P w K mg base N qual (defScope st) f cdv callerA out s H E).nox (defBody st) t ∧ t { nx := fun _ H' => Q .non H', rt := Q } (start N vs) H) : AtTop P w K mg base f fd ps sp := by
  obtain ⟨oc, od, kV, doc, pm, an, cdv, ct, osl, rfl, lk, hcd⟩ := F.ex
  intro out s H args us vs Q E e0 hb r hsp
  have hl := len _ _ _ _ hsp
  have KI : K.In s.heap := e0.mod.kin.keeps fun b o e => (e0.bs b o e).1
  have nl : s.heap.NoLimit := e0.mod.nolimit.keeps fun b o e => (e0.bs b o e).1
  have hk : ∀ y ∈ ps.zip us, (defScope st).names.lookup y.1 = some .local ∨ ((defScope st).names.lookup y.1 = some .cell ∧ ((cellsFrom (s.heap.objs.size + 1) (defScope st).names []).lookup y.1).isSome = true) := fun ⟨n, v⟩ hy => by
    rcases S.par n (List.of_mem_zip hy).1 with q | q
    · exact .inl q
    · exact .inr ⟨q, PySem.W.cellsFrom_some _ _ _ (.inl q)⟩
  refine codeAny_call_function hr.depth (KI _ _ lk) rfl S.co S.gen rfl (PySem.W.codeRec_of KI hcd) (hb _ _ _ _ ?_)
  refine wpAny_newFunctionEnv_cells S.kind hk fun env he s1 x => ?_
  subst he; refine ⟨nl.keeps x.toInCall.keep, codeAny_func ?_⟩
  obtain ⟨t, ht, hq⟩ := hbody cdv out s H vs Q E (hr.deeper _) hsp
  have I : Inv (cxOf CX0 P w K mg base N qual (defScope st) f cdv callerA out s H E) [] (start N vs) H s1 := inv_start S hr.hd e0 hl r x
  refine wpAny_mono (ht.nox.run [] s1 (start N vs) H _ I hq) (fun fl s' hs => ?_) fun e s' hs => hs
  have fin : ∀ {σ' : L2.St} {H' : Hp} {v : V} {u : Value}, Inv (cxOf CX0 P w K mg base N qual (defScope st) f cdv callerA out s H E) [] σ' H' s' → RelV v u → Q v H' → CE out P w H s Q u s' := fun {σ' H' v u} J rv q => ⟨v, H', J.os, J.bare, J.base, J.hok, rv, q⟩
  cases fl with
  | ret u => obtain ⟨v, σ', H', J, rv, q⟩ := hs; exact fin J rv q
  | next => obtain ⟨σ', H', J, q⟩ := hs; exact fin (v := V.non) (u := Value.none) J rfl q
  | brk => obtain ⟨_, _, _, q⟩ := hs; exact False.elim q
  | cont => obtain ⟨_, _, _, q⟩ := hs; exact False.elim q
theorem top_call {P : Program} {w : World} {K : PySem.W.Frag} {mg mb : Str → Option Value} {fa a : Addr} {fd : FuncData} {x : Str} {sp : Sp} {s₁ : Shared} {us : List Value} {ns : List Int}
    (KX : K.In s₁.heap) (hn : s₁.heap.Ns mainGlobals mg) (hb : s₁.heap.Ns builtinsNs mb) (hbb : ∀ x : Str, x ≠ "__name__" → mb x = bootBuiltins x) (hlim : s₁.heap.NoLimit) (hg : s₁.gens = #[])
    (ha : s₁.heap.get? a = some { cls := .type "list", data := .seq us.toArray }) (hi : IntsAre us ns) (hl : ns.length ≤ sizeLine)
    (F : ∀ base : Heap, K.In base → base.Ns mainGlobals mg → AtTop P w K mg base fa fd [x] sp) (hbind : ∀ (s : Shared) (u : Value), BindsTo s fd ⟨[u], []⟩ [(x, u)])
    (hsp : ∀ H : Hp, Only H → SqL K H a (ns.map V.int) → sp [.ref a] H (fun v _ => v = .bl true) fun _ _ _ => False) :
    codeAny (model P w) callerA (.call (.ref fa) ⟨[.ref a], []⟩) (fun r s' => r = .ok (.ret (.bool true)) ∧ OldK s₁.heap s'.heap ∧ s'.os = s₁.os ∧ AllBare s'.gens) s₁ := by
  have rv := vals_ints hi
  have lenV := hi.length
  have main : ∀ H : Hp, Only H → SqL K H a (ns.map V.int) → HOk P w H s₁.heap → (∀ b, H b ≠ none → b = a) → (H a ≠ none → K.lookup a = none) →
      codeAny (model P w) callerA (.call (.ref fa) ⟨[.ref a], []⟩) (fun r s' => r = .ok (.ret (.bool true)) ∧ OldK s₁.heap s'.heap ∧ s'.os = s₁.os ∧ AllBare s'.gens) s₁ := by
    intro H hO hS hok hA hK
    have free : ∀ b : Addr, b ≠ a → H b = none := fun b n => by
      cases q : H b with
      | none => rfl
      | some u => exact absurd (hA b (by rw [q]; simp)) n
    have noA : ∀ {b : Addr} {o : Obj} {es : Array DictEntry} {ep : Nat}, s₁.heap.get? b = some o → o.data = .dict es ep → H b = none := fun {b o es ep} e d => free b fun z => by
      rw [z, ha] at e; cases e
      exact absurd (show Data.seq us.toArray _ = Data.dict es ep from d) (fun z => nomatch z)
    have nsK : ∀ {b : Addr} {m : Str → Option Value}, s₁.heap.Ns b m → (hidT s₁.heap H).Ns b m := fun {b m} ⟨o, es, ep, e, d, r⟩ => ⟨o, es, ep, hidT_get e (noA e d), d, r⟩
    have hKb : K.In (hidT s₁.heap H) := fun b o e => hidT_get (KX b o e) (by
      cases q : H b with
      | none => rfl
      | some u =>
        have z : b = a := hA b (by rw [q]; simp)
        rw [z] at e q
        rw [hK (by rw [q]; simp)] at e; cases e)
    have hM : Mod K mg (hidT s₁.heap H) := ⟨hKb, nsK hn, ⟨mb, nsK hb, hbb⟩, let ⟨mc, h1, h2⟩ := hlim; ⟨mc, nsK h1, h2⟩⟩
    have e0 : Env0 P w K mg (hidT s₁.heap H) callerA [] s₁ H := ⟨rfl, hM, fun b o e => of_hidT e, Nat.le_of_eq (hidT_size _ _), trivial, fun b hb => (nomatch (show b ∈ ([] : List Addr) from hb)), hok, .of_eq hg⟩
    refine codeAny_mono (F _ hKb (nsK hn) [] s₁ H ⟨[.ref a], []⟩ [.ref a] [.ref a] _ _ e0 (hbind s₁ (.ref a)) (.cons rfl .nil) (hsp H hO hS)) fun r s' h => ?_
    cases r with
    | error e => exact False.elim h
    | ok fl =>
      cases fl with
      | next => exact False.elim h
      | brk => exact False.elim h
      | cont => exact False.elim h
      | ret u =>
        obtain ⟨v, H', os, bare, un, hok', r', q⟩ := h
        obtain rfl : v = .bl true := q
        obtain rfl : u = Value.bool true := r'
        refine ⟨rfl, OldK.of_keep fun b o e => ?_, os, bare⟩
        cases q : H b with
        | none => exact un.keep b o e q (fun z => nomatch (show b ∈ ([] : List Addr) from z)) (by simp)
        | some u =>
          rcases hO b with z | ⟨ob, xs, z⟩
          · rw [q] at z; cases z
          · obtain ⟨e1, _⟩ := hok b _ z
            obtain ⟨e2, _⟩ := hok' b _ (un.frzs b ob _ z)
            rw [e] at e1; cases e1; exact e2
  cases hk : K.lookup a with
  | some o =>
    have e := KX a o hk
    rw [ha] at e; cases e
    exact main (fun _ => none) (fun _ => .inl rfl) (.inr ⟨_, us.toArray, _, hk, rfl, rfl, rfl, by rw [List.size_toArray, lenV]; exact hl, by simpa using rv⟩) (fun b u z => nomatch (show (none : Option HO) = some u from z)) (fun b z => absurd rfl z) fun z => absurd rfl z
  | none =>
    refine main (fun b => if b = a then some (.frz { cls := .type "list", data := .seq us.toArray } (.lst (ns.map V.int))) else none) (fun b => ?_) (.inl (.inr ⟨{ cls := .type "list", data := .seq us.toArray }, if_pos rfl⟩)) (fun b u z => ?_) (fun b z => ?_) fun _ => hk
    · by_cases hb : b = a
      · exact .inr ⟨_, _, if_pos hb⟩
      · exact .inl (if_neg hb)
    · by_cases hb : b = a
      · have z' := (if_pos hb).symm.trans z
        cases z'; subst hb
        exact ⟨ha, by rw [List.length_map]; exact hl, us, _, rv, ha⟩
      · exact nomatch ((if_neg hb).symm.trans z)
    · by_cases hb : b = a
      · exact hb
      · exact absurd (if_neg hb) z
theorem walk_top {l : PySem.W.OpenLaw} {n : Nat} {q : Program} {loose : List Str} {XP : (Str → Option Value) → Heap → Prop} {YP : World → Heap → Prop} {d : DefRec} {K : Params → PySem.W.Frag} {sp : World → Sp} {x : Str}
    (hn : l.most = some n) (hn2 : n ≤ sizeLine) (hdf : d.params.defaults = []) (hY : ∀ (w : World) (h : Heap), YP w h → (K w.params).In h)
    (F : ∀ (w : World) (mg : Str → Option Value) (fa : Addr) (h : Heap), (K w.params).In h → h.Ns mainGlobals mg → mg d.name = some (.ref fa) →
      ∃ fd : FuncData, (∀ (s : Shared) (u : Value), BindsTo s fd ⟨[u], []⟩ [(x, u)]) ∧ ∀ base : Heap, (K w.params).In base → base.Ns mainGlobals mg → AtTop l.prog w (K w.params) mg base fa fd [x] (sp w))
    (hsp : ∀ (w : World) (H : Hp) (a : Addr) (ns : List Int), ns.length ≤ n → Only H → SqL (K w.params) H a (ns.map V.int) → sp w [.ref a] H (fun v _ => v = .bl true) fun _ _ _ => False) :
    PySem.W.WalkO q loose XP YP l.row.toRowW d [] (fun f vs => PySem.call f vs) := by
  refine Att.attach_call hn hdf fun w s₀ s₁ mg mb fa o pm cd doc a us ns G Y ho hd hcd hmg hobj hints hlen hg => ?_
  obtain ⟨fd, hb, hF⟩ := F w mg fa _ (hY w _ Y) G.T.g hmg
  exact top_call (hY w _ Y) G.T.g G.T.b G.T.builtins G.T.nolimit hg hobj hints (Nat.le_trans hlen hn2) hF hb fun H hO hS => hsp w H a ns hlen hO hS
end My

set_option linter.all false
namespace My
open PySem PySem.Spec PyProof.Rows L2
abbrev sStir : Stmt := topS 18
abbrev sBegin : Stmt := topS 19
abbrev sDraw : Stmt := topS 20
/-! ### the other pen -/
structure PenD (H : Hp) (p c : Addr) (t : Nat) : Prop where
  ex : ∃ (cells : List Int) (at' a b : Int), H p = some (.lst [.ref c, .int at', .int a, .int b]) ∧ H c = some (.lst (cells.map V.int)) ∧ 0 ≤ at' ∧ at' ≤ (t : Int) ∧ cells.length ≤ 16 ∧ ∀ x ∈ cells, 0 ≤ x
theorem PenD.same {H H' : Hp} {p c : Addr} {t u : Nat} (e : Same H H') (h : t ≤ u) (P : PenD H p c t) : PenD H' p c u := by
  obtain ⟨cells, x, y, z, h1, h2, h3, h4, h5⟩ := P.ex
  exact ⟨cells, x, y, z, e _ _ h1, e _ _ h2, h3, by omega, h5⟩
theorem PenD.some {H : Hp} {p c : Addr} {t : Nat} (h : PenD H p c t) : H p ≠ none := by
  obtain ⟨cells, x, y, z, h1, _⟩ := h.ex
  rw [h1]; exact fun z => nomatch z
theorem PenD.at_c {H : Hp} {p c : Addr} {t : Nat} (h : PenD H p c t) : H c ≠ none := by
  obtain ⟨cells, x, y, z, _, h2, _⟩ := h.ex
  rw [h2]; exact fun z => nomatch z
theorem PenD.not {H : Hp} {p c l : Addr} {t : Nat} (h : PenD H p c t) (n : H l = none) : l ≠ p := fun z => h.some (by rw [← z]; exact n)
theorem PenD.agree {p c a : Addr} {t u : Nat} {H H' : Hp} (P : PenD H p c t) (h1 : a ≠ p) (h2 : a ≠ c) (g : ∀ b, b ≠ a → H' b = H b) (l : t ≤ u) : PenD H' p c u := by
  obtain ⟨cells, x, y, z, e1, e2, e3, e4, e5⟩ := P.ex
  exact ⟨cells, x, y, z, by rw [g p h1.symm]; exact e1, by rw [g c h2.symm]; exact e2, e3, by omega, e5⟩
def spStir : Sp := fun vs H Q _ => ∃ (c a : Int), vs = [.int c, .int a] ∧ 0 ≤ a ∧ a < 2 ^ 30 ∧ ∀ r : Int, 0 ≤ r → Q (.int r) H
def spBegin (K : PySem.W.Frag) : Sp := fun vs H Q _ => ∃ (a : Addr) (ns : List Int), vs = [.ref a] ∧ SqL K H a (ns.map V.int) ∧ ns.length ≤ 63 ∧ ∀ (p c : Addr) (H' : Hp), H p = none → Same H H' → PenD H' p c 0 → Q (.ref p) H'
def spDraw : Sp := fun vs H Q _ => ∃ (p c : Addr) (n : Int) (t : Nat), vs = [.ref p, .int n] ∧ 0 < n ∧ n.natAbs < 2 ^ 8000 ∧ PenD H p c t ∧ t < 2 ^ 29 ∧ ∀ (m : Int) (H' : Hp), 0 ≤ m → m < n → But p H H' → PenD H' p c (t + 1) → Q (.int m) H'
structure TxD (mg : Str → Option Value) : Prop where
  len : mg "len" = none
  range : mg "range" = none
  abs : mg "abs" = none
  enumerate : mg "enumerate" = none
section
variable {P : Program} {w : World} {K : PySem.W.Frag} {mg : Str → Option Value} {base : Heap}
theorem scStir : FnScope ["cell", "at", "prime", "found", "turn"] ["cell", "at"] (defScope sStir) := ⟨rfl, rfl, rfl, by decide +kernel, rfl, by decide +kernel, by decide +kernel⟩
theorem scBegin : FnScope ["script", "cells", "at", "cell"] ["script"] (defScope sBegin) := ⟨rfl, rfl, rfl, by decide +kernel, rfl, by decide +kernel, by decide +kernel⟩
theorem scDraw : FnScope ["pen", "many", "cells", "at", "cell", "found"] ["pen", "many"] (defScope sDraw) := ⟨rfl, rfl, rfl, by decide +kernel, rfl, by decide +kernel, by decide +kernel⟩
theorem ok_stir {f : Addr} {fd : FuncData} (F : Fun K "_law_stir" "_law_stir" sStir f fd) (T : TxD mg) : FnOk P w K mg base CX0 1 f fd ["cell", "at"] spStir := by
  refine F.ok scStir (fun vs H Q E h => ?_) (fun cdv A outer s H vs Q E hr h => ?_)
  · obtain ⟨c, a, rfl, _⟩ := h
    rfl
  · obtain ⟨c, a, rfl, a0, a1, k⟩ := h
    refine ⟨_, (pss_cons (ps_set (i := 2) scStir.nd rfl (Or.inl rfl) pe_int)
      (pss_cons (ps_set (i := 3) scStir.nd rfl (Or.inl rfl) (pe_op op_add (pe_op op_add (pe_op op_mod (pv 0) (pv 2)) (pe_op op_mul pe_int (pv 1))) pe_int))
      (pss_cons (ps_for PassesOwn.never rfl (pi_range1 (by rfl) T.range (pa_cons pe_int pa_nil)) (pg_name (i := 4) scStir.nd rfl (Or.inl rfl)) (pss_one (ps_set (i := 3) scStir.nd rfl (Or.inl rfl) (pe_op op_mod (pe_op op_add (pe_op op_add (pe_op op_add (pe_op op_mul (pv 3) (pv 3)) (pe_op op_mul (pv 3) (pe_op op_add (pe_op op_mul pe_int (pv 4)) pe_int))) (pe_op op_mul pe_int (pv 1))) pe_int) (pv 2)))))
      (pss_one (ps_ret (pe_op op_add (pe_op op_mul (pv 3) (pv 2)) (pe_op op_mod (pe_op op_add (pe_op op_mul (pv 3) pe_int) (pv 1)) (pv 2)))))))), ?_⟩
    have c0 := Int.emod_nonneg c (show (1000000000000000003 : Int) ≠ 0 by decide)
    have c1 := Int.emod_lt_of_pos c (show (0 : Int) < 1000000000000000003 by decide)
    refine ⟨_, rfl, _, rfl, _, _, rfl, rfl, (by show (0 : Int) < 1000000000000000003; decide), _, rfl, _, _, rfl, rfl, .inl ⟨by decide, by decide⟩, _, _, rfl, rfl, _, _, rfl, rfl, ?_⟩
    dsimp only
    refine ⟨5, rfl, by decide, by decide, for_range (n := 5) (fun i σ H2 => ∃ (f : Int) (x4 : Option V), σ = [some (.int c), some (.int a), some (.int 1000000000000000003), some (.int f), x4] ∧ 0 ≤ f ∧ f < 2 ^ 63 ∧ H2 = H) ⟨_, none, rfl, by omega, by omega, rfl⟩ ?_ ?_⟩
    · rintro i σ H2 hi ⟨f, x4, rfl, f0, f1, rfl⟩
      refine ⟨_, rfl, _, rfl, _, _, rfl, rfl, .inl ⟨by omega, by omega⟩, _, rfl, _, rfl, _, _, rfl, rfl, .inl ⟨by decide, by decide⟩, _, _, rfl, rfl, _, _, rfl, rfl, .inl ⟨by omega, by omega⟩, _, _, rfl, rfl, _, rfl, _, _, rfl, rfl, .inl ⟨by decide, by decide⟩, _, _, rfl, rfl, _, _, rfl, rfl, _, rfl, _, _, rfl, rfl, (by show (0 : Int) < 1000000000000000003; decide), ?_⟩
      dsimp only
      generalize f * f + f * (2 * (0 + (i : Int)) + 3) + 1000003 * a + 71 = z
      have z0 := Int.emod_nonneg z (show (1000000000000000003 : Int) ≠ 0 by decide)
      have z1 := Int.emod_lt_of_pos z (show (0 : Int) < 1000000000000000003 by decide)
      exact ⟨_, _, rfl, z0, by omega, rfl⟩
    · rintro σ H2 ⟨f, x4, rfl, f0, f1, rfl⟩
      refine ⟨_, rfl, _, rfl, _, _, rfl, rfl, .inl ⟨by omega, by omega⟩, _, rfl, _, _, rfl, rfl, .inl ⟨by omega, by omega⟩, _, rfl, _, _, rfl, rfl, _, rfl, _, _, rfl, rfl, (by show (0 : Int) < 1000000000000000003; decide), _, _, rfl, rfl, ?_⟩
      refine k _ ?_
      have z0 := Int.emod_nonneg (f * 48611 + a) (show (1000000000000000003 : Int) ≠ 0 by decide)
      omega
theorem abs_nn (i : Int) : 0 ≤ (if i < 0 then -i else i) := by split <;> omega
theorem cut16 (ns : List Int) : ∃ ms : List Int, cutV (ns.map V.int) none (some 16) = ms.map V.int ∧ ms.length = min 16 ns.length := by
  obtain ⟨ms, h1, h2⟩ := cut_ints ns none (some 16)
  refine ⟨ms, h1, ?_⟩
  rw [h2, List.length_take, List.length_drop]
  have a1 : HT.sIx ns.length 0 none = 0 := rfl
  have a2 : HT.sIx ns.length ns.length (some 16) = min 16 ns.length := sIx_nat _ _ 16
  rw [a1, a2]; omega
theorem cut64 (ns : List Int) : ∃ ms : List Int, cutV (ns.map V.int) (some 16) (some 64) = ms.map V.int ∧ ms.length ≤ ns.length - 16 := by
  obtain ⟨ms, h1, h2⟩ := cut_ints ns (some 16) (some 64)
  refine ⟨ms, h1, ?_⟩
  rw [h2, List.length_take, List.length_drop]
  have a1 : HT.sIx ns.length 0 (some 16) = min 16 ns.length := sIx_nat _ _ 16
  have a2 : HT.sIx ns.length ns.length (some 64) = min 64 ns.length := sIx_nat _ _ 64
  rw [a1, a2]; omega
theorem ok_begin {f : Addr} {fd : FuncData} (F : Fun K "_law_begin" "_law_begin" sBegin f fd) (T : TxD mg) : FnOk P w K mg base CX0 1 f fd ["script"] (spBegin K) := by
  refine F.ok scBegin (fun vs H Q E h => ?_) (fun cdv A outer s H vs Q E hr h => ?_)
  · obtain ⟨a, ns, rfl, _⟩ := h
    rfl
  · obtain ⟨a, ns, rfl, hS, hl, k⟩ := h
    refine ⟨_, (pss_cons (ps_setLc (i := 1) (own := [("cell", 3)]) (g := gName 3) (tt := tYes) rfl scBegin.nd rfl (by rfl) (sw_true (by rfl) (by rfl) (by rfl) (by rfl)) (pi_list (pe_slice sl_list (pv 0) po_none (po_some pe_int))) (blkOk_by (N := ["script", "cells", "at", "cell"]) (sc := defScope sBegin) (by decide +kernel)) (fun _ _ _ _ _ => (pg_name (i := 3) scBegin.nd rfl (Or.inl rfl))) (fun _ _ _ _ _ => pts_nil) (fun _ _ _ _ _ => (pe_callB call_abs (by rfl) T.abs boot_abs (pa_cons (pv 3) pa_nil))))
      (pss_cons (ps_for PassesOwn.never rfl (pi_enum (by rfl) T.enumerate (pa_cons (pe_slice sl_list (pv 0) (po_some pe_int) (po_some pe_int)) pa_nil)) (pg_tup (by rfl) (pgs_cons (pg_name (i := 2) scBegin.nd rfl (Or.inl rfl)) (pgs_cons (pg_name (i := 3) scBegin.nd rfl (Or.inl rfl)) pgs_nil))) (pss_one (ps_asg (pe_op op_add (pe_ix ix_list (pv 1) (pe_op op_mod (pv 2) pe_int) (fun _ _ => rfl)) (pe_callB call_abs (by rfl) T.abs boot_abs (pa_cons (pv 3) pa_nil))) (pg_sub (pv 1) (pe_op op_mod (pv 2) pe_int) set_list))))
      (pss_one (ps_ret (pe_lst (pa_cons (pv 1) (pa_cons pe_int (pa_cons pe_int (pa_cons pe_int pa_nil))))))))), ?_⟩
    obtain ⟨ms, e1, l1⟩ := cut16 ns
    obtain ⟨us, e2, l2⟩ := cut64 ns
    refine ⟨_, rfl, 16, rfl, a, _, rfl, hS, fun p1 n1 => ?_⟩
    rw [e1]
    have s1 : Same H (upd H p1 (.lst (ms.map V.int))) := Same.upd n1
    have h1 : (upd H p1 (.lst (ms.map V.int))) p1 = some (.lst (ms.map V.int)) := upd_same
    generalize upd H p1 (.lst (ms.map V.int)) = H1 at s1 h1
    refine ⟨p1, rfl, ⟨_, SqL.of h1⟩, fun D nD => ?_⟩
    refine lc_it (walk_list (K := K) (a := p1) (xs := ms.map V.int)) (fun j Hi => Same H1 Hi ∧ ∃ cs : List Int, Hi D = some (.lst (cs.map V.int)) ∧ cs.length = j ∧ ∀ x ∈ cs, 0 ≤ x)
      ⟨Same.upd nD, [], upd_same, rfl, fun _ h => nomatch h⟩ (fun j Hi _ q => SqL.of (q.1 _ _ h1)) ?_ ?_
    · rintro j x Hi Hj hj ⟨sj, cs, hD, cl, hc⟩ ⟨rfl, hx⟩
      rw [List.getElem?_map] at hx
      obtain ⟨z, hz, rfl⟩ := Option.map_eq_some_iff.mp hx
      refine ⟨rfl, ?_⟩
      refine ⟨_, rfl, z, rfl, ?_⟩
      refine ⟨_, hD, by rw [List.length_map, sizeLine_eq]; rw [List.length_map] at hj; omega, fun c o g => ?_, cs ++ [if z < 0 then -z else z], by rw [upd_same, List.map_append]; rfl, by rw [List.length_append, cl]; rfl, fun y hy => ?_⟩
      · rw [upd_ne (ne_of_none g nD)]; exact sj c o g
      · rcases List.mem_append.mp hy with h | h
        · exact hc y h
        · rw [List.mem_singleton.mp h]; exact abs_nn z
    · rintro H2 ⟨s2, cs, hD, cl, hc⟩
      rw [List.length_map] at cl
      refine ⟨_, rfl, 16, rfl, 64, rfl, a, _, rfl, (s1.trans s2).seq hS, fun p2 n2 => ?_⟩
      rw [e2]
      have D2 : D ≠ p2 := ne_of_none hD n2
      have sp : Same H2 (upd H2 p2 (.lst (us.map V.int))) := Same.upd n2
      have hp2 : (upd H2 p2 (.lst (us.map V.int))) p2 = some (.lst (us.map V.int)) := upd_same
      have hDp := sp _ _ hD
      generalize upd H2 p2 (.lst (us.map V.int)) = H3 at sp hp2 hDp
      refine ⟨p2, us.map V.int, rfl, SqL.of hp2, for_it (walk_enum (K := K) (a := p2) (xs := us.map V.int)) (fun i σ Ho => ∃ (x2 x3 : Option V) (ks : List Int), σ = [some (.ref a), some (.ref D), x2, x3] ∧ Ho D = some (.lst (ks.map V.int)) ∧ ks.length = ms.length ∧ (∀ x ∈ ks, 0 ≤ x) ∧ ∀ b o, b ≠ D → H3 b = some o → Ho b = some o) ?_ ?_ ?_ ?_⟩
      · exact ⟨none, none, cs, rfl, hDp, cl, hc, fun _ _ _ e => e⟩
      · rintro i σ Ho hi ⟨x2, x3, ks, rfl, _, _, _, kp⟩
        exact SqL.of (kp _ _ D2.symm hp2)
      · rintro i x σ Ho Ho' hi ⟨x2, x3, ks, rfl, hk, kl, k0, kp⟩ ⟨T', y, z, rfl, hT, rfl, ey, ez⟩
        obtain rfl : V.int ((i : Nat) : Int) = y := Option.some.inj ey
        have hi' : i < us.length := by rw [List.length_map] at hi; exact hi
        obtain ⟨v, rfl⟩ : ∃ v, z = V.int v := by
          have ez' : (us.map V.int)[i]? = some z := ez
          rw [List.getElem?_map, List.getElem?_eq_getElem hi'] at ez'
          exact ⟨us[i], (Option.some.inj ez').symm⟩
        have m16 : ms.length = 16 := by omega
        have DT : D ≠ T' := ne_of_none hk hT
        have b0 := Int.emod_nonneg ((i : Nat) : Int) (show (16 : Int) ≠ 0 by decide)
        have b1 := Int.emod_lt_of_pos ((i : Nat) : Int) (show (0 : Int) < 16 by decide)
        obtain ⟨j, hj⟩ : ∃ j : Nat, ((i : Nat) : Int) % 16 = (j : Int) := ⟨(((i : Nat) : Int) % 16).toNat, by omega⟩
        have jl : j < ks.length := by omega
        have hu : atI (ks.map V.int) (((i : Nat) : Int) % 16) = some (.int ks[j]) := by
          rw [hj]
          exact atI_nat (by rw [List.getElem?_map, List.getElem?_eq_getElem jl]; rfl)
        refine ⟨T', _, rfl, SqT.of upd_same, rfl, _, _, rfl, _, _, rfl, rfl, ?_⟩
        refine ⟨_, rfl, _, rfl, _, _, rfl, rfl, (by show (0 : Int) < 16; decide), D, _, _, _, rfl, rfl, SqL.of (by rw [upd_ne DT]; exact hk), hu, _, rfl, v, rfl, _, _, rfl, rfl, ?_⟩
        have hjx : ixN (ks.map V.int).length (((i : Nat) : Int) % 16) = some j := by
          unfold ixN
          rw [List.length_map, if_pos b0, if_pos (by omega), hj]; rfl
        refine ⟨_, rfl, _, rfl, _, _, rfl, rfl, (by show (0 : Int) < 16; decide), D, _, _, _, rfl, rfl, (by rw [upd_ne DT]; exact hk), hjx, ?_⟩
        refine ⟨_, _, ks.set j (ks[j] + if v < 0 then -v else v), rfl, by rw [upd_same, List.map_set], by rw [List.length_set]; exact kl, fun y hy => ?_, fun b o hb e => ?_⟩
        · rcases List.mem_or_eq_of_mem_set hy with h | h
          · exact k0 y h
          · have := k0 _ (List.getElem_mem jl)
            have := abs_nn v
            rw [h]; omega
        · rw [upd_ne hb, upd_ne (ne_of_none (kp b o hb e) hT)]
          exact kp b o hb e
      · rintro σ Ho ⟨x2, x3, ks, rfl, hk, kl, k0, kp⟩
        refine ⟨_, rfl, (by show 4 ≤ sizeLine; decide), fun p np => ?_⟩
        have sH : Same H Ho := fun b o e => kp b o (ne_of_none (s1 b o e) nD) (sp _ _ (s2 _ _ (s1 b o e)))
        have Dp : D ≠ p := ne_of_none hk np
        exact k p D _ (sH.free np) (sH.trans (Same.upd np)) ⟨ks, 0, 0, 0, upd_same, by rw [upd_ne Dp]; exact hk, by decide, by decide, by omega, k0⟩
theorem dp_intsD {H : Hp} {a : Addr} {l : List Int} (h : H a = some (.lst (l.map V.int))) : Dp K H (.ref a) (.list (l.map PyData.int)) := by
  refine .lst (SqL.of h) ?_
  clear h
  induction l with
  | nil => exact .nil
  | cons x r ih => exact .cons (.int x) ih
theorem shp_intsD (l : List Int) : SeqAt.shaped (.list (l.map PyData.int)) = true := by
  have h1 : PyData.canLayAll0 (l.map PyData.int) = true := by
    induction l with
    | nil => simp [PyData.canLayAll0]
    | cons x r ih => simp only [List.map_cons, PyData.canLayAll0, PyData.canLay0, ih, Bool.and_true]
  have h2 : PyData.depthAll (l.map PyData.int) = 0 := by
    clear h1
    induction l with
    | nil => simp only [List.map_nil, PyData.depthAll]
    | cons x r ih => simp only [List.map_cons, PyData.depthAll, PyData.depth, ih]; rfl
  unfold SeqAt.shaped
  simp only [PyData.canLay0, PyData.depth, h1, h2]
  rfl
theorem ne_nilD {l : List Int} : (!PyData.eqv (.list (l.map PyData.int)) (.list [])) = !l.isEmpty := by
  cases l with
  | nil => simp [PyData.eqv, PyData.eqvAll]
  | cons a r => simp [PyData.eqv, PyData.eqvAll]
theorem int_atD {xs : List Int} {i : Int} (h0 : 0 ≤ i) (h1 : i < xs.length) : ∃ v : Int, v ∈ xs ∧ atI (xs.map V.int) i = some (.int v) := by
  obtain ⟨j, rfl⟩ : ∃ j : Nat, i = (j : Int) := ⟨i.toNat, by omega⟩
  have hj : j < xs.length := by omega
  exact ⟨xs[j], List.getElem_mem hj, atI_nat (by rw [List.getElem?_map, List.getElem?_eq_getElem hj]; rfl)⟩
theorem log_small {i : Int} (h : i.natAbs < 2 ^ 8000) (h0 : 0 < i) : i.natAbs.log2 < 9000 := Nat.lt_trans (PySem.Flt.log2_lt_of (k := 8000) (by decide) h) (by decide)
theorem ok_draw {f fS : Addr} {fd fdS : FuncData} (F : Fun K "_law_draw" "_law_draw" sDraw f fd) (T : TxD mg) (FS : Fun K "_law_stir" "_law_stir" sStir fS fdS) (bS : Binds K fdS ["cell", "at"] []) (gS : mg "_law_stir" = some (.ref fS)) :
    FnOk P w K mg base CX0 2 f fd ["pen", "many"] spDraw := by
  have GS : FnOk P w K mg base CX0 1 fS fdS ["cell", "at"] spStir := ok_stir FS T
  refine F.ok scDraw (fun vs H Q E h => ?_) (fun cdv A outer s H vs Q E hr h => ?_)
  · obtain ⟨p, c, n, t, rfl, _⟩ := h
    rfl
  · obtain ⟨p, c, n, t, rfl, n0, nb, PA, tb, k⟩ := h
    obtain ⟨cells, a1, r1, q1, hp, hc, a10, a11, cl, cn⟩ := PA.ex
    have ncp : c ≠ p := fun z => by
      rw [z, hp] at hc
      cases cells with
      | nil => cases hc
      | cons x r => cases hc
    refine ⟨_, (C8.pss_cut (ps_if (pt_cmpR op_lt (pe_ix ix_list (pv 0) pe_int (fun _ _ => rfl)) (pv 1) (nomark _)) (pss_cons (ps_par (i := 2) (j := 3) (by rfl) scDraw.nd rfl rfl (by decide) rfl rfl (pa_cons (pe_ix ix_list (pv 0) pe_int (fun _ _ => rfl)) (pa_cons (pe_ix ix_list (pv 0) pe_int (fun _ _ => rfl)) pa_nil)) (by rfl))
      (C8.pss_cut (ps_set (i := 4) scDraw.nd rfl (Or.inl rfl) (pe_ifExp (pt_cmpR (op_neD hr.units) (pv 2) (pe_lst pa_nil) (nomark _)) (pe_ix ix_list (pv 2) (pe_op op_mod (pv 3) (pe_callB call_len_seq (by rfl) T.len PySem.boot_len (pa_cons (pv 2) pa_nil))) (fun _ _ => rfl)) pe_int))
      (C8.pss_cut (ps_if (PW.pt (pw_or (pt_cmpR op_ge (pv 3) (pe_callB call_len_seq (by rfl) T.len PySem.boot_len (pa_cons (pv 2) pa_nil)) (nomark _)) (pw_or1 (pt_cmpR op_lt (pv 4) pe_int (nomark _))))) (pss_one (ps_set (i := 4) scDraw.nd rfl (Or.inl rfl) (pe_call GS hr (by rfl) gS FS.kp bS .nil pass0 (pa_cons (pe_op op_add (pe_op op_mod (pv 4) pe_int) (pe_op op_fdivW (pv 3) (pe_op op_add (pe_callB call_len_seq (by rfl) T.len PySem.boot_len (pa_cons (pv 2) pa_nil)) pe_int))) (pa_cons (pv 3) pa_nil))))) pss_nil)
      (pss_cons (ps_asg (pe_op op_add (pv 3) pe_int) (pg_sub (pv 0) pe_int set_list))
      (pss_cons (ps_asg (pv 4) (pg_sub (pv 0) pe_int set_list))
      (pss_one (ps_asg (pv 4) (pg_sub (pv 0) pe_int set_list)))))))) pss_nil)
      (pss_cons (ps_set (i := 5) scDraw.nd rfl (Or.inl rfl) (pe_op op_mod (pe_ix ix_list (pv 0) pe_int (fun _ _ => rfl)) (pv 1)))
      (pss_cons (ps_asg (pe_op op_fdivW (pe_ix ix_list (pv 0) pe_int (fun _ _ => rfl)) (pv 1)) (pg_sub (pv 0) pe_int set_list))
      (pss_cons (ps_asg (pe_op op_fdivW (pe_ix ix_list (pv 0) pe_int (fun _ _ => rfl)) (pv 1)) (pg_sub (pv 0) pe_int set_list))
      (pss_one (ps_ret (pv 5))))))), ?_⟩
    -- what holds behind the if
    refine ⟨fun σ H2 => ∃ (x2 x3 x4 : Option V) (a2 r2 q2 : Int), σ = [some (.ref p), some (.int n), x2, x3, x4, none] ∧ H2 p = some (.lst [.ref c, .int a2, .int r2, .int q2]) ∧ H2 c = some (.lst (cells.map V.int)) ∧ 0 ≤ a2 ∧ a2 ≤ (t : Int) + 1 ∧ But p H H2, ?_, ?_⟩
    · refine ⟨_, rfl, p, _, 3, .int q1, rfl, rfl, SqL.of hp, atI_nat (j := 3) rfl, _, rfl, _, _, rfl, rfl, _, rfl, ite2 (fun _ => ?_) (fun _ => ?_)⟩
      · refine ⟨_, rfl, p, _, 0, .ref c, rfl, rfl, SqL.of hp, atI_nat (j := 0) rfl, _, rfl, p, _, 1, .int a1, rfl, rfl, SqL.of hp, atI_nat (j := 1) rfl, _, _, rfl, ?_⟩
        refine ⟨fun σ H2 => ∃ z : Int, σ = [some (.ref p), some (.int n), some (.ref c), some (.int a1), some (.int z), none] ∧ 0 ≤ z ∧ Same H H2, ?_, ?_⟩
        · refine ⟨_, rfl, (by show 0 ≤ sizeLine; decide), fun l nl => ?_⟩
          have s1 : Same H (upd H l (.lst [])) := Same.upd nl
          have hl : (upd H l (.lst [])) l = some (.lst []) := upd_same
          generalize upd H l (.lst []) = H1 at s1 hl
          have hc1 := s1 _ _ hc
          refine ⟨.list (cells.map PyData.int), .list [], dp_intsD hc1, .lst (SqL.of hl) .nil, shp_intsD cells, by decide, _, rfl, ite2 (fun ne => ?_) (fun _ => ⟨0, rfl, Int.le_refl 0, s1⟩)⟩
          rw [ne_nilD] at ne
          have ln : 0 < cells.length := by
            cases cells with
            | nil => simp at ne
            | cons x r => simp
          obtain ⟨v, vin, hv⟩ := int_atD (xs := cells) (i := a1 % (((cells.map V.int).length : Nat) : Int)) (Int.emod_nonneg _ (by rw [List.length_map]; omega)) (by
            have := Int.emod_lt_of_pos a1 (show (0 : Int) < (((cells.map V.int).length : Nat) : Int) by rw [List.length_map]; omega)
            rw [List.length_map] at this ⊢; exact this)
          exact ⟨_, rfl, _, rfl, _, rfl, c, _, rfl, .inl (SqL.of hc1), _, _, rfl, rfl, by rw [List.length_map]; omega, c, _, _, .int v, rfl, rfl, SqL.of hc1, hv, v, rfl, cn v vin, s1⟩
        rintro σ H1 ⟨z, rfl, z0, s1⟩
        have hc1 := s1 _ _ hc
        have hp1 := s1 _ _ hp
        refine ⟨fun σ H2 => ∃ z : Int, σ = [some (.ref p), some (.int n), some (.ref c), some (.int a1), some (.int z), none] ∧ 0 ≤ z ∧ H2 = H1, ?_, ?_⟩
        · have go : ∀ Qx : VK, (∀ r : Int, 0 ≤ r → Qx (.int r) H1) → (tCall spStir [] E0 (tCons (tOp (rI0 fun i j => V.int (i + j)) (tOp (rI (fun _ j => 0 < j) fun i j => V.int (i % j)) (tVar 4) (tC (V.int 1000000000000))) (tOp (rI CDivW fun i j => V.int (i / j)) (tVar 3) (tOp (rI0 fun i j => V.int (i + j)) (tCB (fun xs H_1 Q => ∃ p ys, xs = [V.ref p] ∧ (SqL K H_1 p ys ∨ SqT K H_1 p ys) ∧ Q (V.int ↑ys.length) H_1) (tCons (tVar 2) tNil)) (tC (V.int 1))))) (tCons (tVar 3) tNil))) [some (.ref p), some (.int n), some (.ref c), some (.int a1), some (.int z), none] H1 Qx := by
            intro Qx q
            refine ⟨_, rfl, _, _, rfl, rfl, (by show (0 : Int) < 1000000000000; decide), _, rfl, _, rfl, c, _, rfl, .inl (SqL.of hc1), _, _, rfl, rfl, _, _, rfl, rfl, ⟨by omega, ?_⟩, _, _, rfl, rfl, _, rfl, _, _, rfl, a10, by omega, q⟩
            rw [List.length_map]
            exact log_small (Nat.lt_of_le_of_lt (show ((cells.length : Int) + 1).natAbs ≤ 1000 by omega) (by decide)) (by omega)
          refine ⟨_, rfl, _, rfl, c, _, rfl, .inl (SqL.of hc1), _, _, rfl, rfl, _, rfl, ite2 (fun _ => ?_) (fun _ => ?_)⟩
          · exact go _ fun r r0 => ⟨r, rfl, r0, rfl⟩
          · refine ⟨_, rfl, _, _, rfl, rfl, _, rfl, ite2 (fun _ => ?_) (fun _ => ⟨z, rfl, z0, rfl⟩)⟩
            exact go _ fun r r0 => ⟨r, rfl, r0, rfl⟩
        rintro σ H2 ⟨z, rfl, z0, rfl⟩
        refine ⟨_, rfl, _, _, rfl, rfl, _, rfl, p, _, 1, 1, rfl, rfl, hp1, rfl, ?_⟩
        have u1 : (upd H2 p (.lst ([V.ref c, .int a1, .int r1, .int q1].set 1 (.int (a1 + 1))))) p = some (.lst [.ref c, .int (a1 + 1), .int r1, .int q1]) := upd_same
        refine ⟨_, rfl, _, rfl, p, _, 2, 2, rfl, rfl, u1, rfl, ?_⟩
        refine ⟨_, rfl, _, rfl, p, _, 3, 3, rfl, rfl, upd_same, rfl, ?_⟩
        refine ⟨_, _, _, a1 + 1, z, z, rfl, upd_same, ?_, by omega, by omega, (((But.of s1).trans But.upd).trans But.upd).trans But.upd⟩
        rw [upd_ne ncp, upd_ne ncp, upd_ne ncp]; exact hc1
      · exact ⟨_, _, _, a1, r1, q1, rfl, hp, hc, a10, by omega, fun _ _ _ e => e⟩
    · rintro σ H2 ⟨x2, x3, x4, a2, r2, q2, rfl, h2, h2c, g1, g2, b2⟩
      refine ⟨_, rfl, p, _, 2, .int r2, rfl, rfl, SqL.of h2, atI_nat (j := 2) rfl, _, rfl, _, _, rfl, rfl, n0, ?_⟩
      refine ⟨_, rfl, p, _, 2, .int r2, rfl, rfl, SqL.of h2, atI_nat (j := 2) rfl, _, rfl, _, _, rfl, rfl, ⟨n0, log_small nb n0⟩, _, rfl, p, _, 2, 2, rfl, rfl, h2, rfl, ?_⟩
      have u1 : (upd H2 p (.lst ([V.ref c, .int a2, .int r2, .int q2].set 2 (.int (r2 / n))))) p = some (.lst [.ref c, .int a2, .int (r2 / n), .int q2]) := upd_same
      refine ⟨_, rfl, p, _, 3, .int q2, rfl, rfl, SqL.of u1, atI_nat (j := 3) rfl, _, rfl, _, _, rfl, rfl, ⟨n0, log_small nb n0⟩, _, rfl, p, _, 3, 3, rfl, rfl, u1, rfl, ?_⟩
      refine ⟨_, rfl, k _ _ (Int.emod_nonneg _ (by omega)) (Int.emod_lt_of_pos _ n0) ((b2.trans But.upd).trans But.upd) ⟨cells, a2, r2 / n, q2 / n, upd_same, ?_, g1, by omega, cl, cn⟩⟩
      rw [upd_ne ncp, upd_ne ncp]; exact h2c
end
end My

namespace My
open PySem PySem.Spec PyProof.Rows L2
/-! ### texts -/
abbrev tl (x : Str) : List Nat := x.cps.toList
theorem len_tl (x : Str) : x.length = (tl x).length := by simp [tl, Str.length]
theorem tl_ap (x y : Str) : tl (x ++ y) = tl x ++ tl y := by
  show (x ++ y).cps.toList = _
  rw [Str.cps_append, Array.toList_append]
def ofL (l : List Nat) : Str := ⟨l.toArray⟩
theorem tl_ofL (l : List Nat) : tl (ofL l) = l := rfl
theorem ofL_tl (x : Str) : ofL (tl x) = x := Str.ext' (by simp [ofL, tl])
/-- x * k, k at least 1 -/
def rMulS : R2 := fun x y H Q => ∃ (z : Str) (k : Nat), x = .str z ∧ y = .int k ∧ 1 ≤ k ∧ k ≤ 1000 ∧ z.length ≤ 1000 ∧ Q (.str (ofL (List.replicate k (tl z)).flatten)) H
theorem fold_cat : ∀ (k : Nat) (a b : Array Nat), ((List.replicate k b).foldl (· ++ ·) a).toList = a.toList ++ (List.replicate k b.toList).flatten
  | 0, a, b => by simp
  | k + 1, a, b => by
    rw [List.replicate_succ, List.foldl_cons, fold_cat k, List.replicate_succ, List.flatten_cons, Array.toList_append, List.append_assoc]
theorem op_mulS {X : Cx} : OpR X (binaryOp .Mult) rMulS := by
  intro pins s σ H x y v u Q I rx ry h
  obtain ⟨z, k, rfl, rfl, k1, k2, hz, q⟩ := h
  obtain ⟨t, rfl⟩ := rx
  obtain ⟨t', rfl⟩ := ry
  have big : ((z.length : Int)) ≤ (2 ^ 63 - 1) / (k : Int) := by
    rw [Int.le_ediv_iff_mul_le (by omega)]
    have : (z.length : Int) * (k : Int) ≤ 1000 * 1000 := Int.mul_le_mul (by omega) (by omega) (by omega) (by decide)
    omega
  have small : z.length * k ≤ 1000 * 1000 := Nat.mul_le_mul hz k2
  refine PySem.P.mul_str (by
    have h1 : ¬ ((k : Int) < -(2 ^ 63 : Int)) := by omega
    have h2 : ¬ ((k : Int) ≥ 2 ^ 63) := by omega
    rw [decide_eq_false h1, decide_eq_false h2]; rfl) (fun _ _ => by omega) (fun _ _ => ?_) ?_
  · rw [Int.toNat_natCast]
    refine decide_eq_false ?_
    have := line63
    show ¬ (z.length * k > _)
    have e : sizeLine = 16777216 := sizeLine_eq
    omega
  · rw [if_neg (by omega)]
    by_cases c : ((k : Int) == 1 || z.length == 0) = true
    · rw [if_pos c]
      have e : ofL (List.replicate k (tl z)).flatten = z := by
        rcases (Bool.or_eq_true _ _).mp c with c | c
        · have k1 : k = 1 := by have := (beq_iff_eq).mp c; omega
          subst k1
          show ofL (tl z ++ []) = z
          rw [List.append_nil, ofL_tl]
        · have z0 : tl z = [] := by
            have := (beq_iff_eq).mp c
            rw [len_tl] at this
            exact List.eq_nil_of_length_eq_zero this
          have : (List.replicate k (tl z)).flatten = [] := by rw [z0]; simp
          rw [this, ← z0, ofL_tl]
      rw [e] at q
      exact ⟨.str z, H, I, ⟨t, rfl⟩, q⟩
    · rw [if_neg c, Int.toNat_natCast]
      have e : (⟨(List.replicate k z.cps).foldl (· ++ ·) #[]⟩ : Str) = ofL (List.replicate k (tl z)).flatten := Str.ext' (Array.toList_inj.mp (by rw [fold_cat]; simp [ofL, tl]))
      rw [e]
      refine ⟨?_, .str _, H, I.tok _, ⟨_, rfl⟩, q⟩
      show (ofL (List.replicate k (tl z)).flatten).length ≤ sizeLine
      rw [len_tl, tl_ofL, List.length_flatten, List.map_replicate, List.sum_replicate_nat, ← len_tl, Nat.mul_comm, sizeLine_eq]
      omega
/-! ### letters -/
def Lets (l : List Nat) : Prop := ∀ c ∈ l, 97 ≤ c ∧ c ≤ 122
structure NameOk (x : Str) : Prop where
  lets : Lets (tl x)
  lo : 1 ≤ x.length
  hi : x.length ≤ 8
def sgS : Str := "abcdefghijklmnopqrstuvwxyz"
theorem sg_tl : tl sgS = (List.range 26).map (97 + ·) := by decide +kernel
theorem sg_len : sgS.length = 26 := by rw [len_tl, sg_tl]; decide
theorem sg_at {i : Int} (h0 : 0 ≤ i) (h1 : i < 26) : atI sgS.cps.toList i = some (97 + i.toNat) := by
  obtain ⟨j, rfl⟩ : ∃ j : Nat, i = (j : Int) := ⟨i.toNat, by omega⟩
  refine atI_nat ?_
  show (tl sgS)[j]? = _
  rw [sg_tl, List.getElem?_map, List.getElem?_range (by omega)]
  simp
def chr (i : Int) : Str := ⟨#[97 + i.toNat]⟩
theorem tl_chr (i : Int) : tl (chr i) = [97 + i.toNat] := rfl
theorem chr_len (i : Int) : (chr i).length = 1 := rfl
theorem lets_chr {i : Int} (h0 : 0 ≤ i) (h1 : i < 26) : Lets (tl (chr i)) := fun c hc => by
  rw [tl_chr] at hc
  have := List.mem_singleton.mp hc
  omega
theorem flat1 (m c : Nat) : (List.replicate m [c]).flatten = List.replicate m c := by
  induction m with
  | zero => rfl
  | succ n ih => rw [List.replicate_succ, List.flatten_cons, ih, List.replicate_succ]; rfl
def repC (m : Nat) (i : Int) : Str := ofL (List.replicate m (tl (chr i))).flatten
theorem tl_repC (m : Nat) (i : Int) : tl (repC m i) = List.replicate m (97 + i.toNat) := by
  show (List.replicate m [97 + i.toNat]).flatten = _
  exact flat1 m _
theorem repC_ok {m : Nat} {i : Int} (h0 : 0 ≤ i) (h1 : i < 26) (m1 : 1 ≤ m) (m2 : m ≤ 8) : NameOk (repC m i) := by
  refine ⟨fun c hc => ?_, ?_, ?_⟩
  · rw [tl_repC] at hc
    have := (List.mem_replicate.mp hc).2
    omega
  · rw [len_tl, tl_repC, List.length_replicate]; exact m1
  · rw [len_tl, tl_repC, List.length_replicate]; exact m2
theorem repC_inj {m n : Nat} {i j : Int} (m1 : 1 ≤ m) (h0 : 0 ≤ i) (h1 : 0 ≤ j) (h : repC m i = repC n j) : m = n ∧ i = j := by
  have e : List.replicate m (97 + i.toNat) = List.replicate n (97 + j.toNat) := by rw [← tl_repC, ← tl_repC, h]
  have l := congrArg List.length e
  rw [List.length_replicate, List.length_replicate] at l
  subst l
  refine ⟨rfl, ?_⟩
  have z : (97 + i.toNat) ∈ List.replicate m (97 + j.toNat) := by rw [← e]; exact List.mem_replicate.mpr ⟨by omega, rfl⟩
  have := (List.mem_replicate.mp z).2
  omega
def mid (x : Str) (a : Nat) (i : Int) : Str := cutS x none (some (a : Int)) ++ chr i ++ cutS x (some (a : Int)) none
theorem tl_cut_to (x : Str) {a : Nat} (h : a ≤ x.length) : tl (cutS x none (some (a : Int))) = (tl x).take a := by
  show ((x.cps.toList.drop 0).take (HT.sIx x.length x.length (some (a : Int)) - 0)) = _
  rw [sIx_nat, Nat.min_eq_left h]; rfl
theorem tl_cut_from (x : Str) {a : Nat} (h : a ≤ x.length) : tl (cutS x (some (a : Int)) none) = (tl x).drop a := by
  show ((x.cps.toList.drop (HT.sIx x.length 0 (some (a : Int)))).take (x.length - HT.sIx x.length 0 (some (a : Int)))) = _
  rw [sIx_nat, Nat.min_eq_left h]
  refine List.take_of_length_le ?_
  rw [List.length_drop, len_tl]
  exact Nat.le_refl _
theorem tl_mid (x : Str) {a : Nat} (i : Int) (h : a ≤ x.length) : tl (mid x a i) = (tl x).take a ++ [97 + i.toNat] ++ (tl x).drop a := by
  unfold mid
  rw [tl_ap, tl_ap, tl_cut_to x h, tl_cut_from x h, tl_chr]
theorem mid_ok {x : Str} {a : Nat} {i : Int} (h : a ≤ x.length) (hx : Lets (tl x)) (hl : x.length ≤ 7) (h0 : 0 ≤ i) (h1 : i < 26) : NameOk (mid x a i) := by
  have hl' := len_tl x
  have e : (mid x a i).length = x.length + 1 := by
    rw [len_tl, tl_mid x i h, List.length_append, List.length_append, List.length_take, List.length_drop, ← hl']
    simp only [List.length_cons, List.length_nil]
    omega
  refine ⟨fun c hc => ?_, by omega, by omega⟩
  rw [tl_mid x i h] at hc
  rcases List.mem_append.mp hc with hc | hc
  · rcases List.mem_append.mp hc with hc | hc
    · exact hx c (List.mem_of_mem_take hc)
    · have := List.mem_singleton.mp hc; omega
  · exact hx c (List.mem_of_mem_drop hc)
theorem mid_inj {x : Str} {a : Nat} {i j : Int} (h : a ≤ x.length) (h0 : 0 ≤ i) (h1 : 0 ≤ j) (e : mid x a i = mid x a j) : i = j := by
  have z : (tl x).take a ++ [97 + i.toNat] ++ (tl x).drop a = (tl x).take a ++ [97 + j.toNat] ++ (tl x).drop a := by rw [← tl_mid x i h, ← tl_mid x j h, e]
  have y := List.append_cancel_left (List.append_cancel_right z)
  injection y with y _
  omega
theorem nodup_of {α : Type} {f : Nat → α} {m : Nat} (h : ∀ i j, i < j → j < m → f i ≠ f j) : ((List.range m).map f).Nodup :=
  List.pairwise_map.mpr (List.Pairwise.imp_of_mem (R := (· < ·)) (fun {i j} _ hj hlt => h i j hlt (List.mem_range.mp hj)) List.pairwise_lt_range)
def nm0 (f a : Int) (k : Nat) : Str := repC (1 + ((a + 3 * k) % 8).toNat) ((f + 5 * k) % 26)
def nm1 (f a : Int) (k : Nat) : Str := repC (1 + ((a + k) % 8).toNat) f
def nm2 (x : Str) (f : Int) (a : Nat) (k : Nat) : Str := mid x a ((f + 5 * k) % 26)
structure NamesOk (ns : List Str) (m : Nat) : Prop where
  len : ns.length = m
  nod : ns.Nodup
  ok : ∀ x ∈ ns, NameOk x
theorem names_of {f : Nat → Str} {m : Nat} (h : ∀ i j, i < j → j < m → f i ≠ f j) (ok : ∀ i, i < m → NameOk (f i)) : NamesOk ((List.range m).map f) m :=
  ⟨by simp, nodup_of h, fun x hx => by
    obtain ⟨i, hi, rfl⟩ := List.mem_map.mp hx
    exact ok i (List.mem_range.mp hi)⟩
theorem md {x k : Int} (h : 0 < k) : 0 ≤ x % k ∧ x % k < k := ⟨Int.emod_nonneg _ (by omega), Int.emod_lt_of_pos _ h⟩
theorem names0 {f a : Int} {m : Nat} (hm : m ≤ 8) : NamesOk ((List.range m).map (nm0 f a)) m :=
  names_of (fun i j h1 h2 e => by
    have r1 := md (x := f + 5 * i) (k := 26) (by decide)
    have r2 := md (x := f + 5 * j) (k := 26) (by decide)
    have := (repC_inj (by omega) r1.1 r2.1 e).2
    omega) fun i _ => by
    have r1 := md (x := f + 5 * i) (k := 26) (by decide)
    have r2 := md (x := a + 3 * i) (k := 8) (by decide)
    exact repC_ok r1.1 r1.2 (by omega) (by omega)
theorem names1 {f a : Int} {m : Nat} (hm : m ≤ 8) (f0 : 0 ≤ f) (f1 : f < 26) : NamesOk ((List.range m).map (nm1 f a)) m :=
  names_of (fun i j h1 h2 e => by
    have r1 := md (x := a + i) (k := 8) (by decide)
    have r2 := md (x := a + j) (k := 8) (by decide)
    have := (repC_inj (by omega) f0 f0 e).1
    omega) fun i _ => by
    have r2 := md (x := a + i) (k := 8) (by decide)
    exact repC_ok f0 f1 (by omega) (by omega)
theorem names2 {x : Str} {f : Int} {a m : Nat} (hm : m ≤ 8) (h : a ≤ x.length) (hx : Lets (tl x)) (hl : x.length ≤ 7) : NamesOk ((List.range m).map (nm2 x f a)) m :=
  names_of (fun i j h1 h2 e => by
    have r1 := md (x := f + 5 * i) (k := 26) (by decide)
    have r2 := md (x := f + 5 * j) (k := 26) (by decide)
    have := mid_inj h r1.1 r2.1 e
    omega) fun i _ => by
    have r1 := md (x := f + 5 * i) (k := 26) (by decide)
    exact mid_ok h hx hl r1.1 r1.2
/-! ### joined -/
theorem join_nil (ys : List Str) : tl (Txt.join "" ys) = (ys.map tl).flatten := by
  show tl (Builtin.Str.glued (Str.ofString "") ys) = _
  rw [StrLaws.glued_eq_join]
  have e0 : tl (Str.ofString "") = [] := by decide +kernel
  have key : ∀ zs : List Str, tl (Str.join (Str.ofString "") zs) = (zs.map tl).flatten := by
    intro zs
    induction zs with
    | nil => rfl
    | cons x r ih =>
      cases r with
      | nil => show tl x = _; simp
      | cons y r =>
        show tl (x ++ Str.ofString "" ++ Str.join (Str.ofString "") (y :: r)) = _
        rw [tl_ap, tl_ap, e0, List.append_nil, ih]; rfl
  exact key ys
theorem join_chrs {cs : List Int} (h : ∀ c ∈ cs, 0 ≤ c ∧ c < 26) : Lets (tl (Txt.join "" (cs.map chr))) ∧ (Txt.join "" (cs.map chr)).length = cs.length := by
  have e : tl (Txt.join "" (cs.map chr)) = cs.map fun c => 97 + c.toNat := by
    rw [join_nil, List.map_map]
    clear h
    induction cs with
    | nil => rfl
    | cons c r ih => rw [List.map_cons, List.flatten_cons, ih]; rfl
  refine ⟨fun c hc => ?_, by rw [len_tl, e, List.length_map]⟩
  rw [e] at hc
  obtain ⟨d, hd, rfl⟩ := List.mem_map.mp hc
  have := h d hd
  omega
end My

namespace My
open PySem PySem.Spec PyProof.Rows L2
def spNames : Sp := fun vs H Q _ => ∃ (p pc : Addr) (m t : Nat), vs = [.ref p, .int m] ∧ m ≤ 8 ∧ PenC H p pc t ∧ t + 20 < 2 ^ 29 ∧
  ∀ (l : Addr) (ns : List Str) (H' : Hp), NamesOk ns m → H l = none → But p H H' → PenC H' p pc (t + 11) → H' l = some (.lst (ns.map V.str)) → Q (.ref l) H'
structure TxN (mg : Str → Option Value) : Prop where
  len : mg "len" = none
  range : mg "range" = none
section
variable {P : Program} {w : World} {K : PySem.W.Frag} {mg : Str → Option Value} {base : Heap}
theorem small_nat {k : Nat} (h : k ≤ 1000) : (k : Int).natAbs < 2 ^ 8000 := Nat.lt_of_le_of_lt (show (k : Int).natAbs ≤ 1000 by omega) (by decide)
theorem small_int {k : Int} (h0 : 0 ≤ k) (h : k ≤ 1000) : k.natAbs < 2 ^ 8000 := Nat.lt_of_le_of_lt (show k.natAbs ≤ 1000 by omega) (by decide)
theorem map_snoc (f : Nat → Str) (i : Nat) : (((List.range i).map f).map V.str) ++ [V.str (f i)] = ((List.range (i + 1)).map f).map V.str := by
  rw [List.range_succ, List.map_append, List.map_append]; rfl
end
end My

namespace My
open PySem PySem.Spec PyProof.Rows L2
/-! ### sorted(d), d a dict with keys (int, str) -/
theorem perm_lift {α β : Type} {f : α → β} {l l' : List β} (h : l.Perm l') : ∀ m : List α, l' = m.map f → ∃ m' : List α, m'.Perm m ∧ l = m'.map f := by
  induction h with
  | nil => intro m e; cases m with | nil => exact ⟨[], .refl _, rfl⟩ | cons _ _ => cases e
  | cons x _ ih =>
    intro m e
    cases m with
    | nil => cases e
    | cons a r =>
      injection e with e1 e2
      obtain ⟨m', p, q⟩ := ih r e2
      exact ⟨a :: m', p.cons a, by rw [List.map_cons, ← q, e1]⟩
  | swap x y l =>
    intro m e
    cases m with
    | nil => cases e
    | cons a r =>
      cases r with
      | nil => cases e
      | cons b r =>
        injection e with e1 e2
        injection e2 with e2 e3
        exact ⟨b :: a :: r, .swap _ _ _, by rw [List.map_cons, List.map_cons, e1, e2, e3]⟩
  | trans _ _ ih1 ih2 =>
    intro m e
    obtain ⟨m1, p1, q1⟩ := ih2 m e
    obtain ⟨m2, p2, q2⟩ := ih1 m1 q1
    exact ⟨m2, p2.trans p1, q2⟩
def pk (q : Int × Str) : List Key := [.inl q.1, .inr q.2]
def pv2 (q : Int × Str) : List V := [.int q.1, .str q.2]
theorem pk_kv (q : Int × Str) : (pk q).map kV = pv2 q := rfl
def Tp (h : Heap) (b : Addr) (q : Int × Str) : Prop := ∃ t u o n, h.get? b = some o ∧ o.cls = .type "tuple" ∧ o.data = .seq #[.int q.1 t, .str q.2 u] n
theorem Tp.keep {h h' : Heap} {b : Addr} {q : Int × Str} (k : ∀ o, h.get? b = some o → h'.get? b = some o) (x : Tp h b q) : Tp h' b q := by
  obtain ⟨t, u, o, n, ho, r⟩ := x
  exact ⟨t, u, o, n, k o ho, r⟩
theorem tups_of {h : Heap} : ∀ {zs : List (Addr × Int × Str)}, (∀ z ∈ zs, Tp h z.1 z.2) → ∃ fs, TupsOf h PyProof.Rows.G.sh1 (zs.map fun z => Value.ref z.1) fs
  | [], _ => ⟨[], .nil⟩
  | z :: zs, hz => by
    obtain ⟨fs, hf⟩ := tups_of fun y hy => hz y (List.mem_cons_of_mem _ hy)
    obtain ⟨t, u, o, n, ho, hc, hd⟩ := hz z List.mem_cons_self
    exact ⟨_, .cons ⟨z.1, o, _, n, rfl, ho, hc, hd, rfl, fun _ => ⟨_, _, rfl⟩, fun e => absurd e (by decide)⟩ hf⟩
section
variable {X : Cx} {pins : List (Addr × Obj)} {σ : L2.St} {H : Hp} {s : Shared}
theorem tp_of (I : Inv X pins σ H s) {b : Addr} {q : Int × Str} (h : H b = some (.tup (pv2 q))) : Tp s.heap b q := by
  obtain ⟨_, its, r, o, ho, hc, n, hd⟩ := I.hok b _ h
  cases r with
  | cons r1 r2 =>
    cases r2 with
    | cons r2 r3 =>
      cases r3
      obtain ⟨t, rfl⟩ := r1
      obtain ⟨u, rfl⟩ := r2
      exact ⟨t, u, o, n, ho, hc, hd⟩
theorem paired_zs {H : Hp} : ∀ {kvs : List (List Key × V)} {xs : List (List Key × Addr × Value)} {ps : List (Int × Str)}, Paired (fun (p : List Key × V) (q : List Key × Addr × Value) => p.1 = q.1 ∧ H q.2.1 = some (.tup (p.1.map kV)) ∧ RelV p.2 q.2.2) kvs xs → kvs.map (·.1) = ps.map pk →
    ∃ zs : List (Addr × Int × Str), zs.map (·.2) = ps ∧ (∀ z ∈ zs, H z.1 = some (.tup (pv2 z.2))) ∧ zs.map (fun z => Value.ref z.1) = xs.map fun q => Value.ref q.2.1
  | _, _, [], .nil, _ => ⟨[], rfl, (fun _ h => nomatch h), rfl⟩
  | _, _, _ :: _, .nil, e => nomatch e
  | _, _, [], .cons _ _, e => nomatch e
  | (k, v) :: kvs, x :: xs, q :: ps, .cons ⟨h1, h2, _⟩ t, e => by
    injection e with e1 e2
    obtain ⟨zs, g1, g2, g3⟩ := paired_zs t e2
    have e1' : k = pk q := e1
    subst e1'
    refine ⟨(x.2.1, q) :: zs, by rw [List.map_cons, g1], fun z hz => ?_, by rw [List.map_cons, List.map_cons, g3]⟩
    rcases List.mem_cons.mp hz with rfl | hz
    · exact h2
    · exact g2 z hz
def rSortP : List V → Hp → VK → Prop := fun xs H Q => ∃ (a : Addr) (kvs : List (List Key × V)) (ps : List (Int × Str)), xs = [.ref a] ∧ H a = some (.dT kvs) ∧ kvs.map (·.1) = ps.map pk ∧
    ∀ (zs : List (Addr × Int × Str)) (p : Addr), (zs.map (·.2)).Perm ps → (∀ z ∈ zs, H z.1 = some (.tup (pv2 z.2))) → H p = none → Q (.ref p) (upd H p (.lst (zs.map fun z => V.ref z.1)))
theorem vals_refs : ∀ zs : List (Addr × Int × Str), Vals (zs.map fun z => V.ref z.1) (zs.map fun z => Value.ref z.1)
  | [] => .nil
  | _ :: zs => .cons rfl (vals_refs zs)
theorem call_sortedDT (hcalm : X.calm = true) : CallR X (.builtin "sorted") rSortP := by
  intro pins s σ H xs us Q I r q
  obtain ⟨a, kvs, ps, ex, hd, hks, q⟩ := q
  subst ex
  obtain ⟨u, eu, rx⟩ := vals1 r
  subst eu
  cases rx
  obtain ⟨z, lo, xs, pr, o, es, ep, ho, hx, hdat, hes, nd⟩ := I.hok a _ hd
  obtain ⟨zs, y1, y2, y3⟩ := paired_zs pr hks
  have hlx : es.size = zs.length := by
    rw [← Array.length_toList, hes, List.length_map]
    have := congrArg List.length y3
    rw [List.length_map, List.length_map] at this
    exact this.symm
  have hlk : zs.length = kvs.length := by
    have e1 := congrArg List.length y1
    have e2 := congrArg List.length hks
    rw [List.length_map] at e1
    rw [List.length_map, List.length_map] at e2
    omega
  have h16 : es.size ≤ sizeLine := by rw [hlx, hlk]; exact z
  refine Calls.call_function_entry PyProof.Rows.kind_sorted PyProof.Rows.plain_sorted PyProof.Rows.entry_sorted (PyProof.Rows.args_sorted1 _) ?_
  unfold Builtin.«sorted»
  refine wpAny_bind (m := checkCount "sorted" 1 1 _) (wpAny_pure ?_)
  refine wpAny_bind (PySem.W.kdu_collect (A := X.A.in1) (KdlSrc.rawDict (es := es) (ep := ep) lo) (I.ok.hd hcalm) ⟨o, ho, hx, hdat⟩ h16 fun h' tk acc hk hacc => ?_)
  have hacc2 : acc.toList = zs.map fun z => Value.ref z.1 := by
    refine List.ext_getElem? fun j => ?_
    rw [y3]
    have e0 : (es.toList)[j]? = (xs.map (entryOfKey (tupleKind (mixKind X.prog X.w))))[j]? := by rw [hes]
    rw [Array.getElem?_toList, List.getElem?_map] at e0
    rw [Array.getElem?_toList, List.getElem?_map]
    cases hj : acc[j]? with
    | none =>
      have : acc.size ≤ j := Array.getElem?_eq_none_iff.mp hj
      rw [hacc.1] at this
      rw [Array.getElem?_eq_none this] at e0
      cases hxj : xs[j]? with
      | none => rfl
      | some _ => rw [hxj] at e0; cases e0
    | some v =>
      obtain ⟨hi, hv⟩ := hacc.2 j v hj
      rw [Array.getElem?_eq_getElem hi] at e0
      cases hxj : xs[j]? with
      | none => rw [hxj] at e0; cases e0
      | some w' =>
        rw [hxj] at e0
        have e1 := Option.some.inj e0
        rw [hv, e1]; rfl
  have hal : acc.toList.length = zs.length := by rw [hacc2, List.length_map]
  have I1 : Inv X pins σ H { s with heap := h', toks := tk } := I.kept hk
  refine wpAny_bind (wpAny_newList ?_ (by rw [hal, hlk]; exact z))
  have hoL : (h'.push (seqObj "list" acc.toList.toArray 0)).get? h'.objs.size = some (seqObj "list" acc.toList.toArray 0) := Heap.get?_push_size _ rfl
  show wpAny _ _ _ _ _ { s with heap := h'.push (seqObj "list" acc.toList.toArray 0), toks := tk }
  have hT : ∀ z ∈ zs, Tp (h'.push (seqObj "list" acc.toList.toArray 0)) z.1 z.2 := fun z hz => Tp.keep (fun o e => Heap.get?_push_of_some _ e) (tp_of I1 (y2 z hz))
  obtain ⟨fs, hfs⟩ := tups_of hT
  rw [← hacc2] at hfs
  refine wpAny_bind (wpAny_holding (wpAny_call_entry PyProof.Rows.slot_list_sort ⟨_, hoL, rfl⟩ PyProof.Rows.entry_list_sort
    (PyProof.Rows.G.list_sort_tups (shape := PyProof.Rows.G.sh1) (fs := fs) (s := { s with heap := h'.push (seqObj "list" acc.toList.toArray 0), toks := tk }) hoL hfs (fun v hv => ?_) (by rw [hal, hlk]; exact z) fun st' hp hs _ => ⟨_, rfl, ?_⟩)
    (PyProof.Rows.args_list_sort _)))
  · rw [hacc2] at hv
    obtain ⟨z, hz, rfl⟩ := List.mem_map.mp hv
    obtain ⟨t, u, o, n, ho, hc, hd⟩ := hT z hz
    exact ⟨_, PyProof.Rows.G.tupKeyC_of ho hc hd (PyProof.Rows.G.two_items rfl)⟩
  have hpm : ((arrOf st').map (·.2)).toList.Perm (zs.map fun z => Value.ref z.1) := by
    have e := Array.perm_iff_toList_perm.mp hp
    rw [pairsOf_toList] at e
    have e2 := e.map (·.2)
    rw [hacc2] at e2
    rw [Array.toList_map]
    refine e2.trans (List.Perm.of_eq ?_)
    rw [List.map_snd_zip (Nat.le_refl _)]
  obtain ⟨zs', g1, g2⟩ := perm_lift hpm zs rfl
  obtain ⟨e', he'⟩ := PyProof.Rows.sortedHeap_at (vs := acc.toList) (out := (arrOf st').map (·.2)) hoL
  have hlen : (zs'.map fun z => V.ref z.1).length ≤ sizeLine := by
    rw [List.length_map, g1.length_eq, hlk]
    exact z
  refine wpAny_pure ⟨_, rfl, .ref h'.objs.size, upd H h'.objs.size (.lst (zs'.map fun z => V.ref z.1)), I1.laid (t' := tk) (fun b u e => ?_) (Nat.le_refl _)
    (show ObjOk X.prog X.w _ _ _ (.lst (zs'.map fun z => V.ref z.1)) from ⟨hlen, ((arrOf st').map (·.2)).toList, e', by rw [g2]; exact vals_refs zs', by rw [Array.toArray_toList]; exact he'⟩), rfl, q zs' _ ?_ (fun z hz => y2 z (g1.mem_iff.mp hz)) (I1.hok.fresh (Nat.le_refl _))⟩
  · have hb : b < h'.objs.size := Heap.lt_size e
    rw [PyProof.Rows.sortedHeap_old (Nat.ne_of_lt hb) (by rw [size_push']; exact Nat.lt_succ_of_lt hb)]
    exact Heap.get?_push_of_some _ e
  · rw [← y1]; exact g1.map _
end
end My

namespace My
open PySem PySem.Spec PyProof.Rows L2
/-! ### dict(l), l a list of pairs ((int, str), True) -/
def mergeT (kvs more : List (List Key × V)) : List (List Key × V) := more.foldl (fun acc kv => putK acc kv.1 kv.2) kvs
structure KeysIn (S : Int × Str → Prop) (n : Nat) (kvs : List (List Key × V)) : Prop where
  ex : ∃ ps : List (Int × Str), kvs.map (·.1) = ps.map pk ∧ (∀ q ∈ ps, S q) ∧ ps.length ≤ n
theorem KeysIn.nil {S : Int × Str → Prop} : KeysIn S 0 [] := ⟨[], rfl, (fun _ h => nomatch h), Nat.le_refl _⟩
theorem KeysIn.put {S : Int × Str → Prop} {n : Nat} {kvs : List (List Key × V)} (h : KeysIn S n kvs) {q : Int × Str} (hq : S q) (v : V) : KeysIn S (n + 1) (putK kvs (pk q) v) := by
  obtain ⟨ps, h1, h2, h3⟩ := h.ex
  unfold putK
  by_cases c : (kvs.any fun kv => decide (kv.1 = pk q)) = true
  · rw [if_pos c]
    refine ⟨ps, ?_, h2, by omega⟩
    rw [← h1, List.map_map]
    refine List.map_congr_left fun kv _ => ?_
    show (if kv.1 = pk q then (kv.1, v) else kv).1 = kv.1
    by_cases e : kv.1 = pk q
    · rw [if_pos e]
    · rw [if_neg e]
  · rw [if_neg c]
    refine ⟨ps ++ [q], by rw [List.map_append, List.map_append, h1]; rfl, fun x hx => ?_, by rw [List.length_append]; simpa using h3⟩
    rcases List.mem_append.mp hx with hx | hx
    · exact h2 x hx
    · rw [List.mem_singleton.mp hx]; exact hq
theorem KeysIn.merge {S : Int × Str → Prop} (v : V) : ∀ {L : List (Int × Str)} {n : Nat} {kvs : List (List Key × V)}, KeysIn S n kvs → (∀ q ∈ L, S q) → KeysIn S (n + L.length) (mergeT kvs (L.map fun q => (pk q, v)))
  | [], n, kvs, h, _ => h
  | q :: L, n, kvs, h, hL => by
    have := KeysIn.merge v (L := L) (h.put (hL q List.mem_cons_self) v) fun x hx => hL x (List.mem_cons_of_mem _ hx)
    rw [List.length_cons, show n + (L.length + 1) = n + 1 + L.length by omega]
    exact this
theorem KeysIn.len {S : Int × Str → Prop} {n : Nat} {kvs : List (List Key × V)} (h : KeysIn S n kvs) : kvs.length ≤ n := by
  obtain ⟨ps, h1, _, h3⟩ := h.ex
  have := congrArg List.length h1
  rw [List.length_map, List.length_map] at this
  omega
theorem KT.merge {H : Hp} : ∀ {zs : List (Addr × Addr × (Int × Str))} {kvs : List (List Key × V)} {xs : List (List Key × Addr × Value)}, KT H kvs xs → (∀ z ∈ zs, H z.2.1 = some (.tup (pv2 z.2.2))) →
    KT H (mergeT kvs (zs.map fun z => (pk z.2.2, V.bl true))) (PySem.storedAllH xs (zs.map fun z => (pk z.2.2, z.2.1, Value.bool true)))
  | [], _, _, h, _ => h
  | z :: zs, kvs, xs, h, hz => KT.merge (zs := zs) (KT.put h (pk z.2.2) (hz z List.mem_cons_self) (show RelV (.bl true) (.bool true) from rfl)) fun y hy => hz y (List.mem_cons_of_mem _ hy)
def rDictTP (K : PySem.W.Frag) : List V → Hp → VK → Prop := fun xs H Q => ∃ (a : Addr) (zs : List (Addr × Addr × (Int × Str))), xs = [.ref a] ∧ SqL K H a (zs.map fun z => V.ref z.1) ∧ (∀ z ∈ zs, H z.1 = some (.tup [.ref z.2.1, .bl true]) ∧ H z.2.1 = some (.tup (pv2 z.2.2))) ∧ zs.length ≤ 1000 ∧
  ∀ p, H p = none → Q (.ref p) (upd H p (.dT (mergeT [] (zs.map fun z => (pk z.2.2, .bl true)))))
section
variable {X : Cx}
theorem call_dictTP (hcalm : X.calm = true) (hu : X.A.units + 64 < cLine) : CallR X (.type "dict") (rDictTP X.K) := by
  intro pins s σ H xs us Q I r q
  obtain ⟨a, zs, ex, hq, hz, hz0, q⟩ := q
  subst ex
  obtain ⟨u, eu, rx⟩ := vals1 r
  subst eu
  cases rx
  obtain ⟨its, rv, pl, hsz⟩ := I.list hq
  obtain ⟨o, n, ho, hc, hd, hdat⟩ := pl
  have ei : its = zs.map fun z => Value.ref z.1 := by
    have := refs_at (ps := zs.map (·.1)) (us := its) (by rw [List.map_map]; exact rv)
    rw [this, List.map_map]; rfl
  subst ei
  have hnew : ∀ b, H b ≠ none → b ≠ s.heap.objs.size := fun b h e => h (by rw [e]; exact I.hok.fresh (Nat.le_refl _))
  refine PySem.call_dict_pairsH (knd := tupleKind (mixKind X.prog X.w)) (ps := zs.map fun z => (pk z.2.2, z.2.1, Value.bool true))
    (PySem.PairArg.list a (zs.map fun z => Value.ref z.1).toArray (fun j => ((zs[j]?).map (·.1)).getD 0) (zs.map fun z => (Value.ref z.2.1, Value.bool true))) (I.ok.hd hcalm) (show X.A.in1.in1.units < cLine by show X.A.units + 1 + 1 < cLine; omega)
    ⟨⟨o, n, ho, hc, hd, hdat⟩, ?_⟩ ⟨by rw [List.length_map, List.length_map], fun i key v e => ?_⟩ (fun h' hk x hx => ?_) (by rw [List.length_map, sizeLine_eq]; omega) fun h' tk hd' hk => ?_
  · refine ⟨by simp, fun j k v e => ?_⟩
    rw [List.getElem?_map] at e
    cases ez : zs[j]? with
    | none => rw [ez] at e; cases e
    | some z =>
      rw [ez] at e
      have e := Option.some.inj e
      cases e
      refine ⟨by simp [ez], .inl ?_⟩
      obtain ⟨_, its, rv2, o2, ho2, hc2, n2, hd2⟩ := I.hok _ _ (hz z (List.mem_of_getElem? ez)).1
      obtain ⟨x1, x2, ei2, r1, r2⟩ := vals2 rv2
      subst ei2
      cases r1; cases r2
      exact ⟨o2, (by show s.heap.get? (((zs[j]?).map (·.1)).getD 0) = _; rw [ez]; exact ho2), hc2, n2, hd2⟩
  · have e' : (zs.map fun z => (Value.ref z.2.1, Value.bool true))[i]? = some (key, v) := e
    rw [List.getElem?_map] at e'
    cases ez : zs[i]? with
    | none => rw [ez] at e'; cases e'
    | some z =>
      rw [ez] at e'
      have e' := Option.some.inj e'
      cases e'
      exact ⟨pk z.2.2, z.2.1, by rw [List.getElem?_map, ez]; rfl, rfl⟩
  · obtain ⟨z, hzm, rfl⟩ := List.mem_map.mp hx
    have h2 := (hz z hzm).2
    obtain ⟨o3, its3, n3, g1, g2⟩ := key_of (P := X.prog) (w := X.w) (ks := pk z.2.2) I.hok h2
    exact ⟨o3, its3, n3, hk _ _ (hnew _ (by rw [h2]; exact fun y => nomatch y)) (by simp) g1, g2⟩
  · obtain ⟨od, es, ep, hod, h2, h3, h4, _, h5⟩ := hd'
    have hm : (s.heap.objs.size == sysModules) = false := beq_eq_false_iff_ne.mpr (Nat.ne_of_gt I.big)
    have kin := (KeysIn.nil (S := fun _ => True)).merge (.bl true) (L := zs.map fun z => z.2.2) fun q hq => trivial
    rw [List.map_map] at kin
    have hlen : (mergeT [] (zs.map fun z => (pk z.2.2, V.bl true))).length ≤ sizeLine := by
      have := kin.len
      rw [List.length_map] at this
      rw [sizeLine_eq]
      refine Nat.le_trans this (by omega)
    have rel : KT H (mergeT [] (zs.map fun z => (pk z.2.2, V.bl true))) (PySem.storedAllH [] (zs.map fun z => (pk z.2.2, z.2.1, Value.bool true))) := KT.merge .nil fun z hzm => (hz z hzm).2
    refine ⟨.ref s.heap.objs.size, upd H s.heap.objs.size (.dT (mergeT [] (zs.map fun z => (pk z.2.2, V.bl true)))), I.laid (t' := tk) (fun b o e => hk b o (by simp) e) (Nat.le_refl _) ⟨hlen, hm, _, rel.keeps fun c ys ec => ?_, od, es, ep, hod, h2, h3, h4, h5⟩, rfl, q _ (I.hok.fresh (Nat.le_refl _))⟩
    rw [upd_ne (hnew c (by rw [ec]; exact fun y => nomatch y))]
    exact ec
end
end My

namespace My
open PySem PySem.Spec PyProof.Rows L2
/-! ### the pen moves, what stands grows, tuples may come to stand -/
def NoTup (o : Option HO) : Prop := o ≠ none ∧ ∀ ys, o ≠ some (.tup ys)
def IsL (o : Option HO) : Prop := ∃ xs, o = some (.lst xs)
structure Mw (p : Addr) (G H G' H' : Hp) : Prop where
  gg : Same G G'
  gh : Same G' H'
  bt : But p H H'
  pl : IsL (H p)
  pl' : IsL (H' p)
  old : ∀ c, NoTup (H c) → G' c = G c
theorem IsL.nt {o : Option HO} (h : IsL o) : NoTup o := by
  obtain ⟨xs, rfl⟩ := h
  exact ⟨(fun z => nomatch z), fun ys z => nomatch z⟩
theorem PenC.isL {H : Hp} {p pc : Addr} {t : Nat} (P : PenC H p pc t) : IsL (H p) := by
  obtain ⟨cells, x, y, h, _⟩ := P.ex
  exact ⟨_, h⟩
theorem NoTup.but {p c : Addr} {H H' : Hp} (b : But p H H') (l : IsL (H' p)) (h : NoTup (H c)) : NoTup (H' c) := by
  by_cases e : c = p
  · rw [e]; exact l.nt
  · cases q : H c with
    | none => exact absurd q h.1
    | some o => rw [b c o e q, ← q]; exact h
theorem Mw.trans {p : Addr} {G H G1 H1 G2 H2 : Hp} (a : Mw p G H G1 H1) (b : Mw p G1 H1 G2 H2) : Mw p G H G2 H2 :=
  ⟨a.gg.trans b.gg, b.gh, a.bt.trans b.bt, a.pl, b.pl', fun c h => by rw [b.old c (h.but a.bt a.pl'), a.old c h]⟩
theorem Mw.gp {p : Addr} {G H G1 H1 : Hp} (a : Mw p G H G1 H1) (n : G p = none) : G1 p = none := by rw [a.old p a.pl.nt]; exact n
theorem Mw.keep {p c : Addr} {G H G1 H1 : Hp} (a : Mw p G H G1 H1) (h : IsL (H c)) (n : G c = none) : G1 c = none := by rw [a.old c h.nt]; exact n
theorem Mw.take {p pc : Addr} {G H H1 : Hp} {t u : Nat} (e : Same G H) (n : G p = none) (P : PenC H p pc t) (P1 : PenC H1 p pc u) (b : But p H H1) : Mw p G H G H1 :=
  ⟨Same.refl G, same_but e n b, b, P.isL, P1.isL, fun _ _ => rfl⟩
theorem Mw.nw {p pc : Addr} {G H G1 H1 : Hp} {t : Nat} (m : Nw G H G1 H1) (P : PenC H p pc t) : Mw p G H G1 H1 := by
  obtain ⟨xs, h⟩ := P.isL
  exact ⟨m.gg, m.gh, But.of m.hh, ⟨xs, h⟩, ⟨xs, m.hh _ _ h⟩, fun c hc => m.old c hc.1⟩
theorem Mw.more {p : Addr} {G H G1 H1 H2 : Hp} (m : Mw p G H G1 H1) (s : Same H1 H2) : Mw p G H G1 H2 := by
  obtain ⟨xs, h⟩ := m.pl'
  exact ⟨m.gg, m.gh.trans s, m.bt.trans (But.of s), m.pl, ⟨xs, s _ _ h⟩, m.old⟩
def alls (G H : Hp) : Hp := fun c => match H c with | some (.tup ys) => some (.tup ys) | _ => G c
theorem alls_tup {G H : Hp} {c : Addr} {ys : List V} (h : H c = some (.tup ys)) : alls G H c = some (.tup ys) := by unfold alls; rw [h]
theorem alls_no {G H : Hp} {c : Addr} (h : ∀ ys, H c ≠ some (.tup ys)) : alls G H c = G c := by
  unfold alls
  split
  · rename_i ys e; exact absurd e (h ys)
  · rfl
theorem alls_gg {G H : Hp} (e : Same G H) : Same G (alls G H) := fun c o h => by
  have h1 := e c o h
  cases o with
  | tup ys => exact alls_tup h1
  | _ => rw [alls_no (fun ys z => by rw [h1] at z; cases z)]; exact h
theorem alls_gh {G H : Hp} (e : Same G H) : Same (alls G H) H := fun c o h => by
  by_cases q : ∃ ys, H c = some (.tup ys)
  · obtain ⟨ys, hy⟩ := q
    rw [alls_tup hy] at h
    rw [hy]; exact h
  · rw [alls_no (fun ys z => q ⟨ys, z⟩)] at h
    exact e c o h
theorem Mw.all {p : Addr} {G H G1 H1 : Hp} (m : Mw p G H G1 H1) : Mw p G H (alls G1 H1) H1 :=
  ⟨m.gg.trans (alls_gg m.gh), alls_gh m.gh, m.bt, m.pl, m.pl', fun c h => by rw [alls_no (h.but m.bt m.pl').2, m.old c h]⟩
/-! ### rows -/
def rowD (row : List (Int × Str)) : PyData := .tuple (row.map fun q => .tuple [.int q.1, .str q.2])
def InB (b : Int) (ns : List Str) (q : Int × Str) : Prop := 0 ≤ q.1 ∧ q.1 < b ∧ q.2 ∈ ns
structure RowIn (b : Int) (ns : List Str) (most : Nat) (row : List (Int × Str)) : Prop where
  mem : ∀ q ∈ row, InB b ns q
  len : row.length ≤ most
def spRow (K : PySem.W.Frag) : Sp := fun vs H Q _ => ∃ (p pc ln : Addr) (b : Int) (ns : List Str) (most t : Nat) (G : Hp), vs = [.ref p, .int b, .ref ln, .int most] ∧ 2 ≤ b ∧ b ≤ 10 ∧ ns ≠ [] ∧ ns.length ≤ 8 ∧ most ≤ 12 ∧ PenC H p pc t ∧ t + 40 < 2 ^ 29 ∧
  Same G H ∧ G p = none ∧ ln ≠ p ∧ H ln = some (.lst (ns.map V.str)) ∧
  ∀ (v : V) (row : List (Int × Str)) (G' H' : Hp), Mw p G H G' H' → PenC H' p pc (t + 1 + 2 * most) → Dq K G' v (rowD row) → RowIn b ns most row → Q v H'
structure TxR (mg : Str → Option Value) : Prop where
  len : mg "len" = none
  range : mg "range" = none
  tuple : mg "tuple" = none
  sorted : mg "sorted" = none
theorem dq_pair2 {K : PySem.W.Frag} {G : Hp} {a : Addr} {q : Int × Str} (h : G a = some (.tup (pv2 q))) : Dq K G (.ref a) (.tuple [.int q.1, .str q.2]) := .tup h (.cons (.int _) (.cons (.str _) .nil))
theorem dq_zs {K : PySem.W.Frag} {G : Hp} : ∀ {zs : List (Addr × Int × Str)}, (∀ z ∈ zs, G z.1 = some (.tup (pv2 z.2))) → DqAll K G (zs.map fun z => V.ref z.1) ((zs.map (·.2)).map fun q => .tuple [.int q.1, .str q.2])
  | [], _ => .nil
  | z :: zs, h => .cons (dq_pair2 (h z List.mem_cons_self)) (dq_zs fun y hy => h y (List.mem_cons_of_mem _ hy))
theorem str_at {ns : List Str} {i : Int} (h0 : 0 ≤ i) (h1 : i < ns.length) : ∃ x : Str, x ∈ ns ∧ atI (ns.map V.str) i = some (.str x) := by
  obtain ⟨j, rfl⟩ : ∃ j : Nat, i = (j : Int) := ⟨i.toNat, by omega⟩
  have hj : j < ns.length := by omega
  exact ⟨ns[j], List.getElem_mem hj, atI_nat (by rw [List.getElem?_map, List.getElem?_eq_getElem hj]; rfl)⟩
section
variable {P : Program} {w : World} {K : PySem.W.Frag} {mg : Str → Option Value} {base : Heap}
end
end My

namespace My
open PySem PySem.Spec PyProof.Rows L2
/-! ### displays, by what stays -/
section
variable {X : Cx} {es : List Expr} {t : TA} {pos : Pos}
theorem paMono (h : PA X es t) : PA X es (fun σ H R => ∃ S : List V → Hp → Prop, t σ H S ∧ ∀ vs H1, S vs H1 → R vs H1) :=
  ⟨fun pos pins s σ H Q I ⟨S, h1, h2⟩ => thn (h.run pos pins s σ H S I h1) fun us s1 ⟨vs, H1, I1, r, q⟩ => ⟨vs, H1, I1, r, h2 _ _ q⟩⟩
def tTupS (t : TA) : TE := fun σ H Q => t σ H fun vs H1 => vs.length ≤ sizeLine ∧ ∀ q H2, Same H1 H2 → H2 q = some (.tup vs) → Q (.ref q) H2
def tLstS (t : TA) : TE := fun σ H Q => t σ H fun vs H1 => vs.length ≤ sizeLine ∧ ∀ q H2, Same H1 H2 → H1 q = none → H2 q = some (.lst vs) → Q (.ref q) H2
theorem pe_tupS {x1} (h : PA X es t) : PE X (.Tuple es x1 pos) (tTupS t) := PE.imp (pe_tup (paMono h)) fun _ _ _ q => ⟨_, q, fun _ _ z => ⟨z.1, fun p np => z.2 p _ (Same.upd np) upd_same⟩⟩
theorem pe_lstS (h : PA X es t) : PE X (.List es pos) (tLstS t) := PE.imp (pe_lst (paMono h)) fun _ _ _ q => ⟨_, q, fun _ _ z => ⟨z.1, fun p np => z.2 p _ (Same.upd np) np upd_same⟩⟩
end
end My

namespace My
open PySem PySem.Spec PyProof.Rows L2
/-- a list of pairs -/
structure PL (b : Int) (ns : List Str) (H : Hp) (a : Addr) : Prop where
  ex : ∃ zs : List (Addr × Int × Str), H a = some (.lst (zs.map fun z => .ref z.1)) ∧ (∀ z ∈ zs, H z.1 = some (.tup (pv2 z.2)) ∧ InB b ns z.2) ∧ zs.length ≤ 12
theorem PL.same {b : Int} {ns : List Str} {H H' : Hp} {a : Addr} (h : PL b ns H a) (e : Same H H') : PL b ns H' a := by
  obtain ⟨zs, h1, h2, h3⟩ := h.ex
  exact ⟨zs, e _ _ h1, fun z hz => ⟨e _ _ (h2 z hz).1, (h2 z hz).2⟩, h3⟩
theorem PL.one {b : Int} {ns : List Str} {H : Hp} {a q : Addr} {x : Int × Str} (h : H a = some (.lst [.ref q])) (h1 : H q = some (.tup (pv2 x))) (i : InB b ns x) : PL b ns H a :=
  ⟨[(q, x)], h, fun z hz => by rw [List.mem_singleton.mp hz]; exact ⟨h1, i⟩, by show 1 ≤ 12; decide⟩
theorem PL.two {b : Int} {ns : List Str} {H : Hp} {a q r : Addr} {x y : Int × Str} (h : H a = some (.lst [.ref q, .ref r])) (h1 : H q = some (.tup (pv2 x))) (h2 : H r = some (.tup (pv2 y))) (i : InB b ns x) (j : InB b ns y) : PL b ns H a :=
  ⟨[(q, x), (r, y)], h, fun z hz => by
    rcases List.mem_cons.mp hz with rfl | hz
    · exact ⟨h1, i⟩
    · rw [List.mem_singleton.mp hz]; exact ⟨h2, j⟩, by show 2 ≤ 12; decide⟩
theorem adr_at {as : List Addr} {i : Int} (h0 : 0 ≤ i) (h1 : i < as.length) : ∃ x : Addr, x ∈ as ∧ atI (as.map V.ref) i = some (.ref x) := by
  obtain ⟨j, rfl⟩ : ∃ j : Nat, i = (j : Int) := ⟨i.toNat, by omega⟩
  have hj : j < as.length := by omega
  exact ⟨as[j], List.getElem_mem hj, atI_nat (by rw [List.getElem?_map, List.getElem?_eq_getElem hj]; rfl)⟩
theorem Mw.own {p r : Addr} {G H G1 H1 : Hp} {o : HO} (m : Mw p G H G1 H1) (h : H r = none) (n : G1 r = none) (hp : r ≠ p) : Mw p G H G1 (upd H1 r o) := by
  refine ⟨m.gg, fun c u hc => ?_, fun c u n1 hc => ?_, m.pl, by rw [upd_ne hp.symm]; exact m.pl', m.old⟩
  · rw [upd_ne (ne_of_none hc n)]; exact m.gh c u hc
  · rw [upd_ne (ne_of_none hc h)]; exact m.bt c u n1 hc
theorem Mw.stand {p r : Addr} {G H G1 H1 : Hp} {o : HO} (m : Mw p G H G1 H1) (h : H r = none) (e : H1 r = some o) : Mw p G H (upd G1 r o) H1 := by
  refine ⟨fun c u hc => ?_, fun c u hc => ?_, m.bt, m.pl, m.pl', fun c hc => ?_⟩
  · by_cases z : c = r
    · subst z
      rw [upd_same]
      have := m.gh c u (m.gg c u hc)
      rw [e] at this
      exact this
    · rw [upd_ne z]; exact m.gg c u hc
  · by_cases z : c = r
    · subst z
      rw [upd_same] at hc
      rw [e]; exact hc
    · rw [upd_ne z] at hc; exact m.gh c u hc
  · rw [upd_ne (fun z => hc.1 (by rw [z]; exact h)), m.old c hc]
/-- a book -/
def bookD (b : Int) (ns : List Str) (rws : List (List (Int × Str))) : PyData := .tuple [.int b, .dict ((ns.zip rws).map fun z => (.str z.1, rowD z.2))]
structure BookOk (b : Int) (ns : List Str) (rws : List (List (Int × Str))) : Prop where
  b0 : 2 ≤ b
  b1 : b ≤ 10
  n0 : ns ≠ []
  n8 : ns.length ≤ 8
  nod : ns.Nodup
  ok : ∀ x ∈ ns, NameOk x
  len : rws.length = ns.length
  rows : ∀ row ∈ rws, RowIn b ns 12 row
def spBook (K : PySem.W.Frag) : Sp := fun vs H Q _ => ∃ (p pc ln : Addr) (b : Int) (ns : List Str) (most t : Nat) (G : Hp), vs = [.ref p, .int b, .ref ln, .int most] ∧ 2 ≤ b ∧ b ≤ 10 ∧ ns ≠ [] ∧ NamesOk ns ns.length ∧ ns.length ≤ 8 ∧ most ≤ 12 ∧ PenC H p pc t ∧ t + 400 < 2 ^ 29 ∧
  Same G H ∧ G p = none ∧ ln ≠ p ∧ H ln = some (.lst (ns.map V.str)) ∧
  ∀ (v : V) (rws : List (List (Int × Str))) (G' H' : Hp), Mw p G H G' H' → PenC H' p pc (t + 30 * ns.length) → Dq K G' v (bookD b ns rws) → BookOk b ns rws → Q v H'
structure TxB (mg : Str → Option Value) : Prop where
  len : mg "len" = none
  range : mg "range" = none
  tuple : mg "tuple" = none
  sorted : mg "sorted" = none
  dict : mg "dict" = none
section
variable {P : Program} {w : World} {K : PySem.W.Frag} {mg : Str → Option Value} {base : Heap}
theorem dqApp {G : Hp} : ∀ {vs us : List V} {ds es : List PyData}, DqAll K G vs ds → DqAll K G us es → DqAll K G (vs ++ us) (ds ++ es)
  | _, _, _, _, .nil, h => h
  | _, _, _, _, .cons a r, h => .cons a (dqApp r h)
theorem dqStrs {G : Hp} : ∀ ns : List Str, DqAll K G (ns.map V.str) (ns.map PyData.str)
  | [] => .nil
  | x :: ns => .cons (.str x) (dqStrs ns)
theorem dqKeys {G : Hp} {kvs : List (Key × V)} {ns : List Str} {rws : List (List (Int × Str))} (h : kvs.map (·.1) = ns.map Sum.inr) (hl : rws.length = ns.length) : DqAll K G (kvs.map fun kv => kV kv.1) (((ns.zip rws).map fun z => (PyData.str z.1, rowD z.2)).map (·.1)) := by
  have e1 : (kvs.map fun kv => kV kv.1) = ns.map V.str := by
    have := congrArg (List.map kV) h
    rw [List.map_map, List.map_map] at this
    exact this
  have e2 : ((ns.zip rws).map fun z => (PyData.str z.1, rowD z.2)).map (·.1) = ns.map PyData.str := by
    rw [List.map_map]
    have := congrArg (List.map PyData.str) (List.map_fst_zip (l₁ := ns) (l₂ := rws) (by omega))
    rw [List.map_map] at this
    exact this
  rw [e1, e2]
  exact dqStrs ns
theorem zipVals {ns : List Str} {rws : List (List (Int × Str))} (hl : rws.length = ns.length) : ((ns.zip rws).map fun z => (PyData.str z.1, rowD z.2)).map (·.2) = rws.map rowD := by
  rw [List.map_map]
  have := congrArg (List.map rowD) (List.map_snd_zip (l₁ := ns) (l₂ := rws) (by omega))
  rw [List.map_map] at this
  exact this
theorem put_new {kvs : List (Key × V)} {ks : List Str} {x : Str} {v : V} (h : kvs.map (·.1) = ks.map Sum.inr) (n : x ∉ ks) : putK kvs (Sum.inr x) v = kvs ++ [(Sum.inr x, v)] := by
  unfold putK
  rw [if_neg]
  intro z
  obtain ⟨kv, h1, h2⟩ := List.any_eq_true.mp z
  have h3 : kv.1 = Sum.inr x := of_decide_eq_true h2
  have h4 : kv.1 ∈ ks.map Sum.inr := by rw [← h]; exact List.mem_map.mpr ⟨kv, h1, rfl⟩
  obtain ⟨y, hy, e⟩ := List.mem_map.mp h4
  rw [h3] at e
  cases e
  exact n hy
theorem take_new {ns : List Str} (h : ns.Nodup) {i : Nat} {x : Str} (hx : ns[i]? = some x) : x ∉ ns.take i := by
  intro z
  obtain ⟨j, hj⟩ := List.mem_iff_getElem?.mp z
  rw [List.getElem?_take] at hj
  by_cases c : j < i
  · rw [if_pos c] at hj
    have hi : i < ns.length := (List.getElem?_eq_some_iff.mp hx).1
    have := (List.getElem?_inj (by omega) h).mp (hj.trans hx.symm)
    omega
  · rw [if_neg c] at hj; cases hj
theorem ne_tl {H : Hp} {a c : Addr} {xs ys : List V} (h : H a = some (.tup xs)) (g : H c = some (.lst ys)) : a ≠ c := fun z => by rw [z, g] at h; cases h
end
end My

namespace My
open PySem PySem.Spec PyProof.Rows L2
/-! ### the text of a book -/
theorem lenap (a b : Str) : (a ++ b).length = a.length + b.length := Str.length_append a b
theorem join_le (B : Nat) : ∀ ts : List Str, (∀ t ∈ ts, t.length ≤ B) → (Str.join ", " ts).length ≤ ts.length * (B + 2)
  | [], _ => by show (0 : Nat) ≤ _; exact Nat.zero_le _
  | [x], h => by
    show x.length ≤ _
    have := h x List.mem_cons_self
    rw [List.length_singleton]; omega
  | x :: y :: r, h => by
    have ih := join_le B (y :: r) fun t ht => h t (List.mem_cons_of_mem _ ht)
    show (x ++ ((", " : String) : Str) ++ Str.join ", " (y :: r)).length ≤ _
    have e : (((", " : String) : Str)).length = 2 := by decide
    have hx := h x List.mem_cons_self
    rw [lenap, lenap, e, List.length_cons, Nat.add_mul]
    omega
theorem tupleText_le (B : Nat) (ts : List Str) (h : ∀ t ∈ ts, t.length ≤ B) : (tupleText ts).length ≤ ts.length * (B + 2) + 3 := by
  unfold tupleText
  have j := join_le B ts h
  have e1 : ((("(" : String) : Str)).length = 1 := by decide
  rw [lenap, lenap, e1]
  have e2 : (((if ts.length == 1 then ",)" else ")" : String) : Str)).length ≤ 2 := by
    cases ts.length == 1 <;> decide
  omega
theorem dictText_le (B : Nat) (ts : List Str) (h : ∀ t ∈ ts, t.length ≤ B) : (dictText ts).length ≤ ts.length * (B + 2) + 2 := by
  unfold dictText
  have j := join_le B ts h
  have e1 : ((("{" : String) : Str)).length = 1 := by decide
  have e2 : ((("}" : String) : Str)).length = 1 := by decide
  rw [lenap, lenap, e1, e2]
  omega
theorem shownAll_map : ∀ ds : List PyData, PyData.shownAll ds = ds.map PyData.shown
  | [] => rfl
  | d :: ds => by rw [List.map_cons, ← shownAll_map ds]; simp only [PyData.shownAll]
theorem shownKv_map : ∀ ds : List (PyData × PyData), PyData.shownKv ds = ds.map fun p => p.1.shown ++ ((": " : String) : Str) ++ p.2.shown
  | [] => rfl
  | (k, v) :: ds => by rw [List.map_cons, ← shownKv_map ds]; simp only [PyData.shownKv]
theorem showAll_of : ∀ ds : List PyData, (∀ d ∈ ds, d.showable = true) → PyData.showableAll ds = true
  | [], _ => rfl
  | d :: ds, h => by simp only [PyData.showableAll, h d List.mem_cons_self, showAll_of ds fun x hx => h x (List.mem_cons_of_mem _ hx), Bool.and_self]
theorem showKv_of : ∀ ds : List (PyData × PyData), (∀ d ∈ ds, d.1.showable = true ∧ d.2.showable = true) → PyData.showableKv ds = true
  | [], _ => rfl
  | (k, v) :: ds, h => by
    have := h (k, v) List.mem_cons_self
    simp only [PyData.showableKv, this.1, this.2, showKv_of ds fun x hx => h x (List.mem_cons_of_mem _ hx), Bool.and_self]
theorem depthAll_le (k : Nat) : ∀ ds : List PyData, (∀ d ∈ ds, d.depth ≤ k) → PyData.depthAll ds ≤ k
  | [], _ => Nat.zero_le _
  | d :: ds, h => by
    have h1 := h d List.mem_cons_self
    have h2 := depthAll_le k ds fun x hx => h x (List.mem_cons_of_mem _ hx)
    simp only [PyData.depthAll]; omega
theorem depthKv_le (k : Nat) : ∀ ds : List (PyData × PyData), (∀ d ∈ ds, d.1.depth ≤ k ∧ d.2.depth ≤ k) → PyData.depthKv ds ≤ k
  | [], _ => Nat.zero_le _
  | (a, b) :: ds, h => by
    have h1 := h (a, b) List.mem_cons_self
    have h2 := depthKv_le k ds fun x hx => h x (List.mem_cons_of_mem _ hx)
    simp only [PyData.depthKv]
    have h3 : a.depth ≤ k := h1.1
    have h4 : b.depth ≤ k := h1.2
    omega
theorem noListAll : ∀ ds : List PyData, (∀ d ∈ ds, hasList d = false) → hasListAll ds = false
  | [], _ => by simp only [hasListAll]
  | d :: ds, h => by simp only [hasListAll, h d List.mem_cons_self, noListAll ds fun x hx => h x (List.mem_cons_of_mem _ hx), Bool.or_self]
theorem noListKv : ∀ ds : List (PyData × PyData), (∀ d ∈ ds, hasList d.1 = false ∧ hasList d.2 = false) → hasListKv ds = false
  | [], _ => by simp only [hasListKv]
  | (k, v) :: ds, h => by
    have := h (k, v) List.mem_cons_self
    simp only [hasListKv, this.1, this.2, noListKv ds fun x hx => h x (List.mem_cons_of_mem _ hx), Bool.or_self]
structure Shw (B k : Nat) (d : PyData) : Prop where
  sh : d.showable = true
  ln : d.shown.length ≤ B
  dp : d.depth ≤ k
  nl : hasList d = false
theorem shw_int {i : Int} (h0 : 0 ≤ i) (h1 : i ≤ 10) : Shw 1921 0 (.int i) := by
  have hl : i.natAbs.log2 < 1920 := Nat.lt_trans (PySem.Flt.log2_lt_of (k := 1900) (by decide) (Nat.lt_of_le_of_lt (show i.natAbs ≤ 10 by omega) (by decide))) (by decide)
  refine ⟨?_, int_text_len_1921 hl, by simp only [PyData.depth]; omega, by simp only [hasList]⟩
  simp only [PyData.showable]; exact decide_eq_true hl
theorem shw_str {x : Str} (h : NameOk x) : Shw 82 0 (.str x) := by
  refine ⟨by simp only [PyData.showable], ?_, by simp only [PyData.depth]; omega, by simp only [hasList]⟩
  have := PySem.StrLaws.reprText_len x fun c hc => by have := h.lets c hc; omega
  have h8 := h.hi
  show (reprText x).length ≤ 82
  omega
theorem shw_tuple {B k n : Nat} {ds : List PyData} (h : ∀ d ∈ ds, Shw B k d) (hn : ds.length ≤ n) : Shw (n * (B + 2) + 3) (k + 1) (.tuple ds) := by
  refine ⟨by simp only [PyData.showable]; exact showAll_of ds fun d hd => (h d hd).sh, ?_, by simp only [PyData.depth]; have := depthAll_le k ds fun d hd => (h d hd).dp; omega, by simp only [hasList]; exact noListAll ds fun d hd => (h d hd).nl⟩
  simp only [PyData.shown]
  rw [shownAll_map]
  have := tupleText_le B (ds.map PyData.shown) fun t ht => by
    obtain ⟨d, hd, rfl⟩ := List.mem_map.mp ht
    exact (h d hd).ln
  rw [List.length_map] at this
  have := Nat.mul_le_mul_right (B + 2) hn
  omega
theorem Shw.up {B B' k k' : Nat} {d : PyData} (h : Shw B k d) (h1 : B ≤ B') (h2 : k ≤ k') : Shw B' k' d := ⟨h.sh, by have := h.ln; omega, by have := h.dp; omega, h.nl⟩
theorem shw_row {b : Int} {ns : List Str} {row : List (Int × Str)} {m : Nat} (hb : b ≤ 10) (hn : ∀ x ∈ ns, NameOk x) (h : RowIn b ns m row) (hm : m ≤ 12) : Shw 60000 2 (rowD row) := by
  unfold rowD
  refine (shw_tuple (B := 4000) (k := 1) (n := 12) (fun d hd => ?_) (by rw [List.length_map]; have := h.len; omega)).up (by decide) (by decide)
  obtain ⟨q, hq, rfl⟩ := List.mem_map.mp hd
  have i := h.mem q hq
  refine (shw_tuple (B := 1921) (k := 0) (n := 2) (fun d hd => ?_) (by simp)).up (by decide) (by decide)
  rcases List.mem_cons.mp hd with rfl | hd
  · exact shw_int i.1 (by have := i.2.1; omega)
  · rw [List.mem_singleton.mp hd]; exact (shw_str (hn _ i.2.2)).up (by decide) (by decide)
theorem shw_book {b : Int} {ns : List Str} {rws : List (List (Int × Str))} (B : BookOk b ns rws) : Shw 2000000 5 (bookD b ns rws) := by
  have key : ∀ d ∈ (ns.zip rws).map (fun z => (PyData.str z.1, rowD z.2)), Shw 82 0 d.1 ∧ Shw 60000 2 d.2 := fun d hd => by
    obtain ⟨z, hz, rfl⟩ := List.mem_map.mp hd
    obtain ⟨h1, h2⟩ := List.of_mem_zip hz
    exact ⟨shw_str (B.ok _ h1), shw_row B.b1 B.ok (B.rows _ h2) (by decide)⟩
  have dict : Shw 600000 3 (.dict ((ns.zip rws).map fun z => (PyData.str z.1, rowD z.2))) := by
    refine ⟨by simp only [PyData.showable]; exact showKv_of _ fun d hd => ⟨(key d hd).1.sh, (key d hd).2.sh⟩, ?_, ?_, by simp only [hasList]; exact noListKv _ fun d hd => ⟨(key d hd).1.nl, (key d hd).2.nl⟩⟩
    · simp only [PyData.shown]
      rw [shownKv_map]
      have := dictText_le 60100 (((ns.zip rws).map fun z => (PyData.str z.1, rowD z.2)).map fun p => p.1.shown ++ ((": " : String) : Str) ++ p.2.shown) fun t ht => by
        obtain ⟨d, hd, rfl⟩ := List.mem_map.mp ht
        have h1 := (key d hd).1.ln
        have h2 := (key d hd).2.ln
        have e : (((": " : String) : Str)).length = 2 := by decide
        rw [lenap, lenap, e]; omega
      have l8 : (((ns.zip rws).map fun z => (PyData.str z.1, rowD z.2)).map fun p => p.1.shown ++ ((": " : String) : Str) ++ p.2.shown).length ≤ 8 := by
        rw [List.length_map, List.length_map, List.length_zip]
        have := B.n8
        omega
      have := Nat.mul_le_mul_right (60100 + 2) l8
      omega
    · simp only [PyData.depth]
      have := depthKv_le 2 _ fun d hd => ⟨by have := (key d hd).1.dp; omega, (key d hd).2.dp⟩
      omega
  unfold bookD
  refine (shw_tuple (B := 600000) (k := 3) (n := 2) (fun d hd => ?_) (by simp)).up (by decide) (by decide)
  rcases List.mem_cons.mp hd with rfl | hd
  · exact (shw_int (by have := B.b0; omega) B.b1).up (by decide) (by decide)
  · rw [List.mem_singleton.mp hd]; exact dict
/-! ### what a standing book is -/
theorem keys_of {K : PySem.W.Frag} {G : Hp} : ∀ {kvs : List (Key × V)} {ns : List Str}, DqAll K G (kvs.map fun kv => kV kv.1) (ns.map PyData.str) → kvs.map (·.1) = ns.map Sum.inr
  | [], [], _ => rfl
  | [], _ :: _, h => by cases h
  | _ :: _, [], h => by cases h
  | (k, v) :: kvs, n :: ns, h => by
    cases h with
    | cons h1 h2 =>
      have e : k = Sum.inr n := by
        cases k with
        | inl i => exact nomatch h1
        | inr x => 
          have h1' : Dq K G (.str x) (.str n) := h1
          cases h1'
          rfl
      rw [List.map_cons, List.map_cons, keys_of h2, e]
end My

namespace My
open PySem PySem.Spec PyProof.Rows L2
/-! ### t * k, any k that is not below nought -/
theorem mul_same (l : Addr) (items : Array Value) (n : Nat) (dd : Option Addr) (sl : Array (Option Value)) (u : Tok) :
    Meets (Builtin.«tuple.__mul__» ⟨[.ref l, .int 1 u], []⟩) (fun _ R s => s.heap.get? l = some { cls := .type "tuple", dict := dd, data := .seq items n, slots := sl } ∧ R (.ok (.ret (Value.ref l))) s) :=
  .of_wp fun prog w A R s h => by
    obtain ⟨hp, g, d, tk, os⟩ := s
    obtain ⟨hl, h⟩ := h
    have f1 := AutoSeq1.idx_int
    have c1 : (items.isEmpty || (1 : Int) == 1) = true := by rw [Bool.or_comm]; rfl
    wp_walk using wpAny_loadPart' hl
    repeat (first
      | (refine wpAny_ite_true (decide_eq_true c1) ?_; wp_walk using wpAny_loadPart' hl)
      | (refine wpAny_ite_false (decide_eq_false (by decide)) ?_; wp_walk using wpAny_loadPart' hl))
    exact ⟨_, rfl, h⟩
theorem mul_none (l : Addr) (items : Array Value) (n : Nat) (dd : Option Addr) (sl : Array (Option Value)) (u : Tok) (c1 : (items.isEmpty || (0 : Int) == 1) = false) :
    Meets (Builtin.«tuple.__mul__» ⟨[.ref l, .int 0 u], []⟩) (fun _ R s => s.heap.get? l = some { cls := .type "tuple", dict := dd, data := .seq items n, slots := sl } ∧ R (.ok (.ret (Value.ref s.heap.objs.size))) { s with heap := s.heap.push { cls := Value.type "tuple", data := Data.seq #[] }, toks := s.toks }) :=
  .of_wp fun prog w A R s h => by
    obtain ⟨hp, g, d, tk, os⟩ := s
    obtain ⟨hl, h⟩ := h
    have f1 := AutoSeq1.idx_int
    have c2 : (decide ((0 : Int) ≤ 0) || items.isEmpty) = true := rfl
    wp_walk using wpAny_loadPart' hl
    repeat (first
      | (refine wpAny_ite_false (decide_eq_false (by rw [c1]; exact Bool.false_ne_true)) ?_; wp_walk using wpAny_loadPart' hl)
      | (refine wpAny_ite_true (decide_eq_true c2) ?_; wp_walk using wpAny_loadPart' hl)
      | (refine wpAny_ite_false (decide_eq_false (by decide)) ?_; wp_walk using wpAny_loadPart' hl))
    exact ⟨_, rfl, h⟩
def rMulT (K : PySem.W.Frag) : R2 := fun x y H Q => ∃ l k xs, x = .ref l ∧ y = .int k ∧ SqT K H l xs ∧ xs ≠ [] ∧ 0 ≤ k ∧ k ≤ 1000 ∧ xs.length ≤ 1000 ∧ (k = 1 → Q (.ref l) H) ∧ (k ≠ 1 → ∀ p, H p = none → Q (.ref p) (upd H p (.tup (List.replicate k.toNat xs).flatten)))
theorem op_mulT {X : Cx} : OpR X (binaryOp .Mult) (rMulT X.K) := by
  intro pins s σ H x y v u Q I rx ry h
  obtain ⟨l, k, xs, rfl, rfl, hT, hne, h0, h1, hz, q1, q2⟩ := h
  by_cases k2 : 2 ≤ k
  · exact op_repT pins s σ H _ _ v u Q I rx ry ⟨l, k, xs, rfl, rfl, hT, hne, k2, h1, hz, q2 (by omega)⟩
  cases rx
  obtain ⟨t, rfl⟩ := ry
  obtain ⟨its, r, ⟨⟨cls, dd, data, sl⟩, ho, hc, n, hd⟩, hs⟩ := I.tuple hT
  simp only at hc hd
  subst hc hd
  have hle : its.length = xs.length := r.length.symm
  have hi : its.toArray.isEmpty = false := by
    cases its with
    | nil => exact absurd (List.eq_nil_of_length_eq_zero hle.symm) hne
    | cons a b => rfl
  by_cases k1 : k = 1
  · subst k1
    exact wpAny_binaryOp_repeat_ref (T := "tuple") (U := "int") (by decide) ⟨_, ho, rfl⟩ (fun s' => typeIs_int s' 1 t) noFill_tuple_mul F.fills_int_mul F.slot_int_rmul repeat_tuple F.slot_int_index.lookup
      (call_meets F.slot_int_rmul (typeIs_int s 1 t) F.entry_int_rmul (F.args_int_rmul_2 _ _) (int_rmul_tuple 1 t l its.toArray n dd sl) ⟨ho, rfl, ⟨_, ho, rfl⟩, call_meets F.slot_tuple_mul ⟨_, ho, rfl⟩ F.entry_tuple_mul (F.args_tuple_mul_2 _ _) (mul_same l its.toArray n dd sl t) ⟨ho, .ref l, H, I, rfl, q1 rfl⟩⟩)
  · have k0 : k = 0 := by omega
    subst k0
    refine wpAny_binaryOp_repeat_ref (T := "tuple") (U := "int") (by decide) ⟨_, ho, rfl⟩ (fun s' => typeIs_int s' 0 t) noFill_tuple_mul F.fills_int_mul F.slot_int_rmul repeat_tuple F.slot_int_index.lookup
      (call_meets F.slot_int_rmul (typeIs_int s 0 t) F.entry_int_rmul (F.args_int_rmul_2 _ _) (int_rmul_tuple 0 t l its.toArray n dd sl) ⟨ho, rfl, ⟨_, ho, rfl⟩, call_meets F.slot_tuple_mul ⟨_, ho, rfl⟩ F.entry_tuple_mul (F.args_tuple_mul_2 _ _) (mul_none l its.toArray n dd sl t (by rw [hi]; rfl)) ⟨ho, ?_⟩⟩)
    refine ⟨.ref s.heap.objs.size, _, I.laid (t' := s.toks) (o := .tup []) (fun b ob q => Heap.get?_push_of_some _ q) (Nat.le_refl _) ?_, rfl, q2 (by decide) _ (I.hok.fresh (Nat.le_refl _))⟩
    exact ⟨by simp, [], .nil, IsTup.new _ _⟩
/-! ### rules by what stands still -/
theorem OpR.imp {X : Cx} {f : Value → Value → Sem Value} {r r' : R2} (h : OpR X f r) (i : ∀ x y H Q, r' x y H Q → r x y H Q) : OpR X f r' := fun pins s σ H x y v u Q I rx ry q => h pins s σ H x y v u Q I rx ry (i _ _ _ _ q)
theorem SlR.imp {X : Cx} {r r' : V → Option Int → Option Int → Hp → VK → Prop} (h : SlR X r) (i : ∀ x lo hi H Q, r' x lo hi H Q → r x lo hi H Q) : SlR X r' := fun pins s σ H x v vl vu lo hi sl Q I rx hs pl pu q => h pins s σ H x v vl vu lo hi sl Q I rx hs pl pu (i _ _ _ _ _ q)
def rMulG : R2 := fun x y H Q => ∃ (G : Hp) (l : Addr) (k : Int) (xs : List V), x = .ref l ∧ y = .int k ∧ Same G H ∧ G l = some (.tup xs) ∧ xs ≠ [] ∧ 0 ≤ k ∧ k ≤ 1000 ∧ xs.length ≤ 1000 ∧ ∀ (a : Addr) (G' H' : Hp), Nw G H G' H' → G' a = some (.tup (List.replicate k.toNat xs).flatten) → Q (.ref a) H'
theorem op_mulG {X : Cx} : OpR X (binaryOp .Mult) rMulG := OpR.imp op_mulT fun x y H Q ⟨G, l, k, xs, e1, e2, e, hl, hn, k0, k1, hz, q⟩ =>
  ⟨l, k, xs, e1, e2, SqT.of (e _ _ hl), hn, k0, k1, hz, fun z => q l G H (Nw.refl e) (by rw [z]; simpa using hl), fun _ p np => q p _ _ (Nw.mk1 e np _) upd_same⟩
def rCatG : R2 := fun x y H Q => ∃ (G : Hp) (a b : Addr) (xs ys : List V), x = .ref a ∧ y = .ref b ∧ Same G H ∧ G a = some (.tup xs) ∧ G b = some (.tup ys) ∧ xs.length + ys.length ≤ sizeLine ∧ ∀ (c : Addr) (G' H' : Hp), Nw G H G' H' → G' c = some (.tup (xs ++ ys)) → Q (.ref c) H'
theorem op_catG {X : Cx} : OpR X (binaryOp .Add) rCatG := OpR.imp op_catA fun x y H Q ⟨G, a, b, xs, ys, e1, e2, e, ha, hb, hz, q⟩ =>
  ⟨a, b, xs, ys, e1, e2, SqT.of (e _ _ ha), SqT.of (e _ _ hb), hz, fun z => q b G H (Nw.refl e) (by rw [z]; simpa using hb), fun _ z => q a G H (Nw.refl e) (by rw [z]; simpa using ha), fun _ _ p np => q p _ _ (Nw.mk1 e np _) upd_same⟩
def rSlG : V → Option Int → Option Int → Hp → VK → Prop := fun x lo hi H Q => ∃ (G : Hp) (a : Addr) (xs : List V), x = .ref a ∧ Same G H ∧ G a = some (.tup xs) ∧ ∀ (c : Addr) (G' H' : Hp), Nw G H G' H' → G' c = some (.tup (cutV xs lo hi)) → Q (.ref c) H'
theorem sl_tupG {X : Cx} : SlR X rSlG := SlR.imp sl_tupA fun x lo hi H Q ⟨G, a, xs, e1, e, ha, q⟩ =>
  ⟨a, xs, e1, SqT.of (e _ _ ha), fun z => q a G H (Nw.refl e) (by
    have : cutV xs lo hi = xs := by
      unfold cutV
      rw [z.1, z.2, List.drop_zero, Nat.sub_zero, List.take_length]
    rw [this]; exact ha), fun _ p np => q p _ _ (Nw.mk1 e np _) upd_same⟩
end My

set_option linter.all false
namespace My
open PySem PySem.Spec PyProof.Rows L2
/-! ### dicts with keys of any kind: entries known one by one -/
/-- an entry that holds a key -/
def EnK (w : World) (h : Heap) (k : NestedKey) (e : DictEntry) : Prop := NestedIs h k e.key ∧ e.hash = k.hash w ∧ k.depth ≤ 8
structure Ks (w : World) (h : Heap) (ks : List NestedKey) (es : Array DictEntry) : Prop where
  len : ks.length = es.size
  at' : ∀ (i : Nat) (e : DictEntry), es[i]? = some e → ∃ x, ks[i]? = some x ∧ EnK w h x e
  nod : ks.Nodup
theorem Ks.to {w : World} {h : Heap} {ks : List NestedKey} {es : Array DictEntry} (S : Ks w h ks es) {j : Nat} {k : NestedKey} (e : ks[j]? = some k) : ∃ en, es[j]? = some en ∧ EnK w h k en := by
  have hj : j < es.size := by rw [← S.len]; exact (List.getElem?_eq_some_iff.mp e).1
  obtain ⟨x, h1, h2⟩ := S.at' j es[j] (Array.getElem?_eq_getElem hj)
  rw [e] at h1
  cases h1
  exact ⟨_, Array.getElem?_eq_getElem hj, h2⟩
theorem Ks.one {w : World} {h : Heap} {ks : List NestedKey} {es : Array DictEntry} (S : Ks w h ks es) {i j : Nat} {k : NestedKey} (e : ks[i]? = some k) (f : ks[j]? = some k) : i = j :=
  (List.getElem?_inj (List.getElem?_eq_some_iff.mp e).1 S.nod).mp (e.trans f.symm)
theorem is_text {h : Heap} {k : NestedKey} {x : Str} {t : Tok} (r : NestedIs h k (.str x t)) : k = .text x := by cases r; rfl
section
variable {prog : Program} {w : World} {A : Around} {E : Value → Shared → Prop} {s : Shared}
def plc (es : Array DictEntry) (h : Int) : List Nat := placesWithHash es.size (fun i => es[i]?.map (·.hash)) h
theorem plc_mem {es : Array DictEntry} {h : Int} {i : Nat} : i ∈ plc es h ↔ ∃ e, es[i]? = some e ∧ e.hash = h := by
  unfold plc placesWithHash
  rw [List.mem_filter, List.mem_range]
  show _ ∧ (Option.map (fun (e : DictEntry) => e.hash) es[i]? == some h) = true ↔ _
  constructor
  · rintro ⟨h1, h2⟩
    refine ⟨es[i], Array.getElem?_eq_getElem h1, ?_⟩
    rw [Array.getElem?_eq_getElem h1] at h2
    simpa using h2
  · rintro ⟨e, h1, h2⟩
    refine ⟨(Array.getElem?_eq_some_iff.mp h1).1, ?_⟩
    rw [h1]; simp [h2]
theorem plc_nod (es : Array DictEntry) (h : Int) : (plc es h).Nodup := List.Pairwise.filter _ List.nodup_range
theorem mayTell_any {k : NestedKey} {u : Value} {l : List Value} {R : Bool → Shared → Prop} (hk : NestedIs s.heap k u) (h8 : k.depth ≤ 8) (hs : ∀ v ∈ l, ∃ x : NestedKey, NestedIs s.heap x v ∧ x.depth ≤ 8) (r : R false s) : wpAny (model prog w) A (tableMayTell u l) R E s := by
  have q8 : ∀ {x : NestedKey} {v : Value} {T : Bool → Shared → Prop}, NestedIs s.heap x v → x.depth ≤ 8 → T true s → wpAny (model prog w) A (eqIsQuiet 8 v) T E s := fun {x v T} a b c => quiet_key x v 8 s a b A E T c
  unfold tableMayTell
  split
  · exact wpAny_pure r
  · refine wpAny_bind (q8 hk h8 ?_)
    rw [if_neg (by simp)]
    refine wpAny_bind (wpAny_forIn_list _ (fun rest b s' => s' = s ∧ b = (none, ()) ∧ ∀ v ∈ rest, ∃ x : NestedKey, NestedIs s.heap x v ∧ x.depth ≤ 8) _ ?_ ?_ _ _ ⟨rfl, rfl, hs⟩)
    · rintro v rest b s' ⟨rfl, rfl, hv⟩
      obtain ⟨x, h1, h2⟩ := hv v List.mem_cons_self
      refine wpAny_bind (q8 h1 h2 ?_)
      rw [if_neg (by simp)]
      exact wpAny_pure ⟨rfl, rfl, fun z hz => hv z (List.mem_cons_of_mem _ hz)⟩
    · rintro b s' ⟨rfl, rfl, _⟩
      exact wpAny_pure r
theorem dictFind_any {d : Addr} {o : Obj} {es : Array DictEntry} {ep : Nat} {ks : List NestedKey} {k : NestedKey} {u : Value} {Q : Option Nat → Shared → Prop} (hu : A.units + 8 < cLine) (hk : NestedIs s.heap k u) (h8 : k.depth ≤ 8)
    (ho : s.heap.get? d = some o) (hd : o.data = .dict es ep) (S : Ks w s.heap ks es) (q0 : k ∉ ks → Q none s) (q1 : ∀ j, ks[j]? = some k → Q (some j) s) :
    wpAny (model prog w) A (dictFind d u (k.hash w)) Q E s := by
  have eqs : ∀ {x : NestedKey} {e : DictEntry} {R : Bool → Shared → Prop}, EnK w s.heap x e → R (decide (x = k)) s → wpAny (model prog w) A (eqBool e.key u) R E s := fun {x e R} hx r =>
    eqAt_key x k A s _ _ hx.1 hk (by have := hx.2.2; omega) _ _ _ _ (by rw [← NestedKey.decide_eq]; exact r)
  unfold dictFind
  try with_reducible refine wpAny_holding ?_
  refine wpAny_bind (wpAny_dictEntries ho hd ?_)
  dsimp only
  -- the walk over places
  have walkP : wpAny (model prog w) A (dictWalkPlain d u (k.hash w) es (plc es (k.hash w))) Q E s := by
    unfold dictWalkPlain
    refine wpAny_bind ?_
    refine wpAny_forIn_list _ (fun rest b s' => s' = s ∧ b = (none, ()) ∧ (∀ i ∈ rest, i ∈ plc es (k.hash w)) ∧ ∀ j, ks[j]? = some k → j ∈ rest) _ ?_ ?_ _ _ ⟨rfl, rfl, fun _ h => h, fun j hj => ?_⟩
    · rintro x rest b s' ⟨rfl, rfl, hin, hall⟩
      obtain ⟨e, he, hh⟩ := plc_mem.mp (hin x List.mem_cons_self)
      obtain ⟨y, hy, ey⟩ := S.at' x e he
      have hin' : ∀ i ∈ rest, i ∈ plc es (k.hash w) := fun i hi => hin i (List.mem_cons_of_mem _ hi)
      rw [he]
      dsimp only
      rw [if_pos (by rw [hh]; exact beq_self_eq_true _)]
      refine wpAny_bind (wpAny_dictEpoch ho hd (wpAny_bind (eqs ey (wpAny_bind (wpAny_dictEpoch ho hd ?_)))))
      rw [if_neg (by simp)]
      by_cases c : y = k
      · rw [decide_eq_true c]
        rw [c] at hy
        exact wpAny_bind (wpAny_rule (wpAny_pure (wpAny_pure (q1 x hy))))
      · rw [decide_eq_false c]
        refine wpAny_bind (wpAny_rule (wpAny_pure ⟨rfl, rfl, hin', fun j hj => ?_⟩))
        rcases List.mem_cons.mp (hall j hj) with z | z
        · rw [z, hy] at hj
          exact absurd (Option.some.inj hj) c
        · exact z
    · rintro b s' ⟨rfl, rfl, _, hall⟩
      refine wpAny_pure (q0 fun hm => ?_)
      obtain ⟨j, hj⟩ := List.mem_iff_getElem?.mp hm
      exact nomatch hall j hj
    · obtain ⟨en, h1, h2⟩ := S.to hj
      exact plc_mem.mpr ⟨en, h1, h2.2.1⟩
  have sub : ∀ v ∈ (plc es (k.hash w)).filterMap (fun i => es[i]?.map (·.key)), ∃ x, NestedIs s.heap x v ∧ x.depth ≤ 8 := fun v hv => by
    obtain ⟨i, _, hi⟩ := List.mem_filterMap.mp hv
    cases he : es[i]? with
    | none => rw [he] at hi; cases hi
    | some e =>
      rw [he] at hi
      cases hi
      obtain ⟨y, _, ey⟩ := S.at' i e he
      exact ⟨y, ey.1, ey.2.2⟩
  have notold : ∀ a, u = .ref a → ¬ (es.any fun e => e.key == Value.ref a && e.hash != k.hash w) = true := by
    intro a ea c
    rw [← Array.any_toList] at c
    obtain ⟨e, he, hc⟩ := List.any_eq_true.mp c
    obtain ⟨i, hi⟩ := List.mem_iff_getElem?.mp he
    obtain ⟨y, _, ey⟩ := S.at' i e (by rw [← hi, Array.getElem?_toList])
    simp only [Bool.and_eq_true, beq_iff_eq, bne_iff_ne, ne_eq] at hc
    have r := ey.1
    rw [hc.1, ← ea] at r
    rw [NestedIs.inj _ _ _ r hk] at ey
    exact hc.2 ey.2.1
  have inv0 : s = s ∧ (plc es (k.hash w)).Nodup ∧ (∀ i ∈ plc es (k.hash w), i ∈ plc es (k.hash w)) ∧ ∃ hit : Option Nat, ((none : Option (Option Nat)), (none : Option Nat)) = (none, hit) ∧ ((hit = none ∧ ∀ j, ks[j]? = some k → j ∈ plc es (k.hash w)) ∨ ∃ j, hit = some j ∧ ks[j]? = some k ∧ j ∉ plc es (k.hash w)) := by
    refine ⟨rfl, plc_nod _ _, fun _ h => h, none, rfl, .inl ⟨rfl, fun j hj => ?_⟩⟩
    obtain ⟨en, h1, h2⟩ := S.to hj
    exact plc_mem.mpr ⟨en, h1, h2.2.1⟩
  have text : ∀ (x : Str) (t : Tok), u = .str x t → wpAny (model prog w) A (foundByValue d u es x) Q E s := by
    intro x t eu
    have kx : k = .text x := is_text (by rw [← eu]; exact hk)
    unfold foundByValue
    have key : ∀ (i : Nat) (e : DictEntry), es[i]? = some e → (e.key.isStr x = true ↔ ks[i]? = some k) := by
      intro i e he
      obtain ⟨y, hy, ey⟩ := S.at' i e he
      constructor
      · intro c
        have r := ey.1
        cases hz : e.key with
        | str z t2 =>
          rw [hz] at r c
          have zx : z = x := by simpa [Value.isStr] using c
          rw [hy, is_text r, kx, zx]
        | _ => rw [hz] at c; simp [Value.isStr] at c
      · intro c
        rw [hy] at c
        cases c
        have r := ey.1
        rw [kx] at r
        cases hz : e.key with
        | str z t2 => rw [hz] at r; cases r; simp [Value.isStr]
        | _ => rw [hz] at r; cases r
    cases hf : es.findIdx? (fun e => e.key.isStr x) with
    | none =>
      refine wpAny_pure (q0 fun hm => ?_)
      obtain ⟨j, hj⟩ := List.mem_iff_getElem?.mp hm
      obtain ⟨en, h1, _⟩ := S.to hj
      have := Array.findIdx?_eq_none_iff.mp hf en (Array.mem_of_getElem? h1)
      rw [(key j en h1).mpr hj] at this
      cases this
    | some i =>
      obtain ⟨hi, h1, _⟩ := Array.findIdx?_eq_some_iff_getElem.mp hf
      have he : es[i]? = some es[i] := Array.getElem?_eq_getElem hi
      have hj := (key i _ he).mp h1
      obtain ⟨y, hy, ey⟩ := S.at' i _ he
      dsimp only
      rw [he]
      refine wpAny_bind (wpAny_dictEpoch ho hd (wpAny_bind (eqs ey (wpAny_bind (wpAny_dictEpoch ho hd ?_)))))
      rw [if_neg (by simp)]
      rw [hj] at hy
      rw [decide_eq_true (Option.some.inj hy).symm]
      exact wpAny_bind (wpAny_rule (wpAny_pure (q1 i hj)))
  have loop : ∀ (W : Nat → Option (Option Nat) × Option Nat → Sem (ForInStep (Option (Option Nat) × Option Nat))),
      (∀ x e y hit, es[x]? = some e → ks[x]? = some y → EnK w s.heap y e → e.hash = k.hash w → (y = k → hit = none) →
        ∀ R : ForInStep (Option (Option Nat) × Option Nat) → Shared → Prop, (y = k → ks[x]? = some k → Q (some x) s → R (.done (some (some x), hit)) s) → (y = k → R (.yield (none, some x)) s) → (y ≠ k → R (.yield (none, hit)) s) → wpAny (model prog w) A (W x (none, hit)) R E s) →
      wpAny (model prog w) A (forIn (plc es (k.hash w)) ((none : Option (Option Nat)), (none : Option Nat)) W) (fun b s' => s' = s ∧ ((∃ r, b = (some r, none) ∧ Q r s) ∨ ∃ r, b = (none, r) ∧ Q r s)) E s := by
    intro W hW
    refine wpAny_forIn_list _ (fun rest b s' => s' = s ∧ ((∃ j, b = (some (some j), none) ∧ Q (some j) s ∧ rest = []) ∨ (rest.Nodup ∧ (∀ i ∈ rest, i ∈ plc es (k.hash w)) ∧ ∃ hit : Option Nat, b = (none, hit) ∧ ((hit = none ∧ ∀ j, ks[j]? = some k → j ∈ rest) ∨ ∃ j, hit = some j ∧ ks[j]? = some k ∧ j ∉ rest)))) _ ?_ ?_ _ _ ⟨rfl, .inr inv0.2⟩
    · rintro x rest b s' ⟨rfl, ⟨j, _, _, z⟩ | ⟨hn, hin, hit, rfl, hH⟩⟩
      · cases z
      · obtain ⟨e, he, hh⟩ := plc_mem.mp (hin x List.mem_cons_self)
        obtain ⟨y, hy, ey⟩ := S.at' x e he
        obtain ⟨hnx, hn'⟩ := List.nodup_cons.mp hn
        have hin' : ∀ i ∈ rest, i ∈ plc es (k.hash w) := fun i hi => hin i (List.mem_cons_of_mem _ hi)
        have hnone : y = k → hit = none := fun c => by
          rcases hH with ⟨z, _⟩ | ⟨j, _, hj, nj⟩
          · exact z
          · rw [c] at hy
            exact absurd (by rw [S.one hj hy]; exact List.mem_cons_self) nj
        refine hW x e y hit he hy ey hh hnone _ (fun c hx q => ?_) (fun c => ?_) fun c => ?_
        · exact ⟨rfl, .inl ⟨_, by rw [hnone c], q⟩⟩
        · rw [c] at hy
          exact ⟨rfl, .inr ⟨hn', hin', some x, rfl, .inr ⟨x, rfl, hy, hnx⟩⟩⟩
        · refine ⟨rfl, .inr ⟨hn', hin', hit, rfl, ?_⟩⟩
          rcases hH with ⟨z, hall⟩ | ⟨j, z, hj, nj⟩
          · refine .inl ⟨z, fun j hj => ?_⟩
            rcases List.mem_cons.mp (hall j hj) with z | z
            · rw [z, hy] at hj
              exact absurd (Option.some.inj hj) c
            · exact z
          · exact .inr ⟨j, z, hj, fun h => nj (List.mem_cons_of_mem _ h)⟩
    · rintro b s' ⟨rfl, ⟨j, rfl, q, _⟩ | ⟨_, _, hit, rfl, hH⟩⟩
      · exact ⟨rfl, .inl ⟨_, rfl, q⟩⟩
      · refine ⟨rfl, .inr ⟨_, rfl, ?_⟩⟩
        rcases hH with ⟨rfl, hall⟩ | ⟨j, rfl, hj, _⟩
        · refine q0 fun hm => ?_
          obtain ⟨j, hj⟩ := List.mem_iff_getElem?.mp hm
          exact nomatch hall j hj
        · exact q1 j hj
  have tells : ∀ R : Bool → Shared → Prop, R false s → wpAny (model prog w) A (tableMayTell u ((plc es (k.hash w)).filterMap fun i => es[i]?.map (·.key))) R E s := fun R r => mayTell_any hk h8 sub r
  have body : ∀ (x : Nat) (e : DictEntry) (y : NestedKey) (hit : Option Nat) (R : ForInStep (Option (Option Nat) × Option Nat) → Shared → Prop), ks[x]? = some y → (y = k → hit = none) → (y = k → ks[x]? = some k → Q (some x) s → R (.done (some (some x), hit)) s) → (y = k → R (.yield (none, some x)) s) → (y ≠ k → R (.yield (none, hit)) s) → y = k ∧ hit = none ∧ Q (some x) s ∧ R (.done (some (some x), hit)) s ∧ R (.yield (none, some x)) s ∨ y ≠ k ∧ R (.yield (none, hit)) s := fun x e y hit R hy hn r1 r2 r3 => by
    by_cases c : y = k
    · have h1 : ks[x]? = some k := by rw [hy, c]
      exact .inl ⟨c, hn c, q1 x h1, r1 c h1 (q1 x h1), r2 c⟩
    · exact .inr ⟨c, r3 c⟩
  by_cases hex : (es.all fun e => isExactStrKey e.key) = true
  all_goals by_cases hall : (u :: (plc es (k.hash w)).filterMap (fun i => es[i]?.map (·.key))).all carriedByValue = true
  all_goals by_cases hone : (((plc es (k.hash w)).filterMap (fun i => es[i]?.map (·.key))) == [u]) = true
  all_goals unfold plc at hall hone walkP tells
  all_goals cases hk
  all_goals (try dsimp only)
  all_goals first | (rw [if_pos hex]; exact text _ _ rfl) | skip
  all_goals first | rw [if_neg hex] | skip
  all_goals first | (rw [if_pos hall]; exact walkP) | skip
  all_goals first | rw [if_neg hall] | skip
  all_goals first | rw [if_neg (notold _ rfl)] | skip
  all_goals first | (rw [if_pos hone]; refine wpAny_bind (wpAny_pure ?_)) | (rw [if_neg hone]; refine wpAny_bind (tells _ ?_))
  all_goals rw [if_neg (by simp)]
  all_goals refine wpAny_bind (wpAny_mono (loop _ ?_) (fun b s' hb => ?_) fun _ _ e => e)
  all_goals first | (rcases hb with ⟨rfl, ⟨r, rfl, q⟩ | ⟨r, rfl, q⟩⟩ <;> exact wpAny_pure q) | skip
  all_goals intro x e y hit he hy ey hh hn R r1 r2 r3
  all_goals rw [he]
  all_goals dsimp only
  all_goals rw [if_pos (by rw [hh]; exact beq_self_eq_true _)]
  all_goals refine wpAny_bind (wpAny_dictEpoch ho hd (wpAny_bind (eqs ey (wpAny_bind (wpAny_dictEpoch ho hd ?_)))))
  all_goals rw [if_neg (by simp)]
  all_goals rcases body x e y hit R hy hn r1 r2 r3 with ⟨c, h0, _, d1, d2⟩ | ⟨c, d3⟩
  all_goals first | (rw [decide_eq_true c]; subst h0; rw [if_pos rfl, if_neg (by simp)]; exact wpAny_bind (wpAny_rule (wpAny_ite_split (fun _ => wpAny_pure d1) fun _ => wpAny_pure d2))) | (rw [decide_eq_false c, if_neg (by simp)]; refine wpAny_bind (wpAny_rule ?_); rw [if_neg (by simp)]; exact wpAny_pure d3)
/-- the key looked up: its place, or none -/
theorem dictGet_any {d : Addr} {o : Obj} {es : Array DictEntry} {ep : Nat} {ks : List NestedKey} {k : NestedKey} {u : Value} {Q : Option Value → Shared → Prop} (hu : A.units + 8 < cLine) (hk : NestedIs s.heap k u) (h8 : k.depth ≤ 8)
    (ho : s.heap.get? d = some o) (hd : o.data = .dict es ep) (S : Ks w s.heap ks es) (q0 : k ∉ ks → Q none { s with toks := s.toks + k.draws })
    (q1 : ∀ (j : Nat) (e : DictEntry), ks[j]? = some k → es[j]? = some e → Q (some e.val) { s with toks := s.toks + k.draws }) : wpAny (model prog w) A (dictGet d u) Q E s := by
  unfold dictGet
  try with_reducible refine wpAny_holding ?_
  refine wpAny_bind (pyHash_key k u A s _ hk (by omega) (wpAny_bind (dictFind_any (s := { s with toks := s.toks + k.draws }) hu hk h8 ho hd S (fun n => wpAny_pure (q0 n)) fun j hj => ?_)))
  obtain ⟨e, he, _⟩ := S.to hj
  refine wpAny_bind (wpAny_dictEntries (s := { s with toks := s.toks + k.draws }) ho hd ?_)
  rw [he]
  exact wpAny_pure (q1 j e hj he)
theorem nested_but {h h' : Heap} {d : Addr} {o : Obj} {es : Array DictEntry} {ep : Nat} {k : NestedKey} {v : Value} (x : NestedIs h k v) (ho : h.get? d = some o) (hd : o.data = .dict es ep) (sb : Heap.SameBut d h h') : NestedIs h' k v :=
  NestedIs.at (fun b ob vs n hb hc => by
    refine (sb.2 b fun z => ?_).trans hb
    rw [z, ho] at hb
    cases hb
    rw [hd] at hc
    cases hc) k v x
theorem Ks.but {h h' : Heap} {d : Addr} {o : Obj} {es es' : Array DictEntry} {ep : Nat} {ks : List NestedKey} (S : Ks w h ks es') (ho : h.get? d = some o) (hd : o.data = .dict es ep) (sb : Heap.SameBut d h h') : Ks w h' ks es' :=
  ⟨S.len, fun i e he => let ⟨x, h1, h2, h3⟩ := S.at' i e he; ⟨x, h1, nested_but h2 ho hd sb, h3⟩, S.nod⟩
/-- a key is put in: its value exchanged, or a new entry at the end -/
theorem dictSet_any {d : Addr} {o : Obj} {es : Array DictEntry} {ep : Nat} {ks : List NestedKey} {k : NestedKey} {u v : Value} {Q : Unit → Shared → Prop} (hu : A.units + 8 < cLine) (hk : NestedIs s.heap k u) (h8 : k.depth ≤ 8)
    (ho : s.heap.get? d = some o) (hx : o.ExactDict) (hd : o.data = .dict es ep) (S : Ks w s.heap ks es) (hz : es.size ≤ sizeLine)
    (q : ∀ (h' : Heap) (es' : Array DictEntry) (ep' : Nat), h'.DictRaw d es' ep' → Heap.SameBut d s.heap h' →
      ((k ∉ ks ∧ es' = es.push ⟨k.hash w, u, v⟩) ∨ ∃ (j : Nat) (e : DictEntry), ks[j]? = some k ∧ es[j]? = some e ∧ es' = es.modify j (fun e => { e with val := v })) → Q () { s with heap := h', toks := s.toks + k.draws }) :
    wpAny (model prog w) A (dictSet d u v) Q E s := by
  unfold dictSet
  try with_reducible refine wpAny_holding ?_
  refine wpAny_bind (pyHash_key k u A s _ hk (by omega) ?_)
  unfold dictSetHashed
  try with_reducible refine wpAny_holding ?_
  refine wpAny_bind (dictFind_any (s := { s with toks := s.toks + k.draws }) hu hk h8 ho hd S (fun n => ?_) fun j hj => ?_)
  · exact wpAny_bind (wpAny_rule (wpAny_updateDictKeys (hz := hz) (s := { s with toks := s.toks + k.draws }) ho hd
      (q _ _ (ep + 1) ⟨_, Heap.get?_update_self _ ho (Obj.isFreed_of_dict (Obj.data_mapDictKeys hd _)), hx.mapDictKeys _, Obj.data_mapDictKeys hd _⟩ (Heap.SameBut.update ..) (.inl ⟨n, rfl⟩))))
  · obtain ⟨e, he, _⟩ := S.to hj
    exact wpAny_bind (wpAny_rule (wpAny_bind (wpAny_updateDict (s := { s with toks := s.toks + k.draws }) ho hd (wpAny_point
      (q _ _ ep ⟨_, Heap.get?_update_self _ ho (Obj.isFreed_of_dict (Obj.data_mapDict hd _)), hx.mapDict _, Obj.data_mapDict hd _⟩ (Heap.SameBut.update ..) (.inr ⟨j, e, hj, he, rfl⟩))))))
theorem contains_any {d : Addr} {o : Obj} {es : Array DictEntry} {ep : Nat} {ks : List NestedKey} {k : NestedKey} {u : Value} {Q : Bool → Shared → Prop} (hu : A.units + 9 < cLine) (hk : NestedIs s.heap k u) (h8 : k.depth ≤ 8) (hm : (d == sysModules) = false)
    (ho : s.heap.get? d = some o) (hx : o.ExactDict) (hd : o.data = .dict es ep) (S : Ks w s.heap ks es) (q : Q (decide (k ∈ ks)) { s with toks := s.toks + k.draws }) : wpAny (model prog w) A (contains (.ref d) u) Q E s := by
  have ty : s.TypeIs (.ref d) "dict" := ⟨o, ho, hx.1⟩
  refine wpAny_contains_slot ty F.slot_dict_contains ?_
  refine call_meetsIn F.slot_dict_contains ty F.entry_dict_contains (F.args_dict_contains_2 _ _) (S := fun A' R s' => A' = A ∧ s' = s ∧ R (.ok (.ret (.bool (decide (k ∈ ks))))) { s with toks := s.toks + k.draws }) (fun A' R s' hS => ?_) ⟨rfl, rfl, wpAny_truthy_bool q⟩
  obtain ⟨rfl, rfl, hq⟩ := hS
  show wpAny _ _ (dictGet d u >>= _) _ _ _
  refine wpAny_bind (dictGet_any (by show A'.units + 1 + 8 < cLine; omega) hk h8 ho hd S (fun n => ?_) fun j e hj he => ?_)
  · rw [decide_eq_false n] at hq
    show wpAny _ _ (Builtin.Dict.pendingKey? d u >>= _) _ _ _
    exact wpAny_bind (wpAny_pendingKey_other hm (wpAny_pure hq))
  · rw [decide_eq_true (List.mem_of_getElem? hj)] at hq
    exact wpAny_pure hq
theorem setItem_any {d : Addr} {o : Obj} {es : Array DictEntry} {ep : Nat} {ks : List NestedKey} {k : NestedKey} {u v : Value} {Q : Unit → Shared → Prop} (hu : A.units + 9 < cLine) (hk : NestedIs s.heap k u) (h8 : k.depth ≤ 8)
    (ho : s.heap.get? d = some o) (hx : o.ExactDict) (hd : o.data = .dict es ep) (S : Ks w s.heap ks es) (hz : es.size ≤ sizeLine)
    (q : ∀ (h' : Heap) (es' : Array DictEntry) (ep' : Nat), h'.DictRaw d es' ep' → Heap.SameBut d s.heap h' →
      ((k ∉ ks ∧ es' = es.push ⟨k.hash w, u, v⟩) ∨ ∃ (j : Nat) (e : DictEntry), ks[j]? = some k ∧ es[j]? = some e ∧ es' = es.modify j (fun e => { e with val := v })) → Q () { s with heap := h', toks := s.toks + k.draws }) :
    wpAny (model prog w) A (setItem (.ref d) u v) Q E s := by
  have ty : s.TypeIs (.ref d) "dict" := ⟨o, ho, hx.1⟩
  unfold setItem
  try with_reducible refine wpAny_holding ?_
  refine wpAny_bind (wpAny_sequenceKey ty (by decide) (wpAny_bind (wpAny_callSpecial?_slot (name := Str.ofString "__setitem__") ty slot_dict_setitem (wpAny_call_entry slot_dict_setitem ty entry_dict_setitem ?_ (args_dict_setitem _ _ _)))))
  show wpAny _ _ (Builtin.Dict.notOrdered "__setitem__" _ >>= _) _ _ s
  refine wpAny_bind (wpAny_notOrdered_dict ty ?_)
  show wpAny _ _ (dictSet d u v >>= _) _ _ s
  exact wpAny_bind (dictSet_any (by show A.units + 1 + 8 < cLine; omega) hk h8 ho hx hd S hz fun h' es' ep' a b c => wpAny_pure ⟨.none, rfl, wpAny_pure (q h' es' ep' a b c)⟩)
end
end My

set_option linter.all false
namespace My
open PySem PySem.Spec PyProof.Rows L2
/-! ### keys and dicts over the abstract heap -/
mutual
inductive KeyV (H : Hp) : NestedKey → V → Prop
  | non : KeyV H .none .non
  | bl (b : Bool) : KeyV H (.num (if b = true then 1 else 0)) (.bl b)
  | int (i : Int) : KeyV H (.num i) (.int i)
  | str (x : Str) : KeyV H (.text x) (.str x)
  | tup {a : Addr} {xs : List V} {ks : List NestedKey} : H a = some (.tup xs) → KeyVs H ks xs → KeyV H (.tup ks) (.ref a)
inductive KeyVs (H : Hp) : List NestedKey → List V → Prop
  | nil : KeyVs H [] []
  | cons {k : NestedKey} {v : V} {ks : List NestedKey} {vs : List V} : KeyV H k v → KeyVs H ks vs → KeyVs H (k :: ks) (v :: vs)
end
mutual
theorem KeyV.up {H H' : Hp} (e : ∀ b xs, H b = some (.tup xs) → H' b = some (.tup xs)) : ∀ {k : NestedKey} {v : V}, KeyV H k v → KeyV H' k v
  | _, _, .non => .non
  | _, _, .bl b => .bl b
  | _, _, .int i => .int i
  | _, _, .str x => .str x
  | _, _, .tup h t => .tup (e _ _ h) (KeyVs.up e t)
theorem KeyVs.up {H H' : Hp} (e : ∀ b xs, H b = some (.tup xs) → H' b = some (.tup xs)) : ∀ {k : List NestedKey} {v : List V}, KeyVs H k v → KeyVs H' k v
  | _, _, .nil => .nil
  | _, _, .cons h t => .cons (KeyV.up e h) (KeyVs.up e t)
end
theorem KeyV.mono {H H' : Hp} (e : Same H H') {k : NestedKey} {v : V} (h : KeyV H k v) : KeyV H' k v := h.up fun b xs z => e b _ z
section
variable {X : Cx} {pins : List (Addr × Obj)} {σ : L2.St} {H : Hp} {s : Shared}
mutual
theorem KeyV.is (I : Inv X pins σ H s) : ∀ {k : NestedKey} {v : V} {u : Value}, KeyV H k v → RelV v u → NestedIs s.heap k u
  | _, _, _, .non, r => by cases (show _ = Value.none from r); exact .none
  | _, _, _, .bl b, r => by cases (show _ = Value.bool b from r); exact .bool rfl
  | _, _, _, .int i, r => by obtain ⟨t, rfl⟩ := (show ∃ t, _ = Value.int i t from r); exact .int _ _
  | _, _, _, .str x, r => by obtain ⟨t, rfl⟩ := (show ∃ t, _ = Value.str x t from r); exact .text _ _
  | _, _, u, @KeyV.tup _ a xs ks h t, r => by
    cases (show u = Value.ref a from r)
    obtain ⟨_, its, rv, o, ho, hc, n, hd⟩ := I.hok _ _ h
    exact .tup ho hc hd (KeyVs.is I t rv)
theorem KeyVs.is (I : Inv X pins σ H s) : ∀ {ks : List NestedKey} {vs : List V} {us : List Value}, KeyVs H ks vs → Vals vs us → NestedAll s.heap ks us
  | _, _, _, .nil, r => by cases r; exact .nil
  | _, _, _, .cons h t, r => by
    cases r with
    | cons r1 r2 => exact .cons (KeyV.is I h r1) (KeyVs.is I t r2)
end
end
/-- an entry: its key, the key as it stands, its value -/
abbrev Kvv := NestedKey × V × V
def EnV (w : World) (H : Hp) (x : Kvv) (e : DictEntry) : Prop := KeyV H x.1 x.2.1 ∧ RelV x.2.1 e.key ∧ e.hash = x.1.hash w ∧ x.1.depth ≤ 8 ∧ RelV x.2.2 e.val
structure Ents (w : World) (H : Hp) (kvs : List Kvv) (es : Array DictEntry) : Prop where
  prd : Paired (EnV w H) kvs es.toList
  nod : (kvs.map (·.1)).Nodup
  lt : kvs.length ≤ sizeLine
theorem Ents.up {w : World} {H H' : Hp} {kvs : List Kvv} {es : Array DictEntry} (h : Ents w H kvs es) (e : ∀ b xs, H b = some (.tup xs) → H' b = some (.tup xs)) : Ents w H' kvs es :=
  ⟨Paired.mapP h.prd fun a b x => ⟨x.1.up e, x.2⟩, h.nod, h.lt⟩
theorem Ents.len {w : World} {H : Hp} {kvs : List Kvv} {es : Array DictEntry} (h : Ents w H kvs es) : kvs.length = es.size := by
  have := Paired.length h.prd
  rw [Array.length_toList] at this
  exact this
theorem Ents.get {w : World} {H : Hp} {kvs : List Kvv} {es : Array DictEntry} (h : Ents w H kvs es) {i : Nat} {x : Kvv} (e : kvs[i]? = some x) : ∃ en, es[i]? = some en ∧ EnV w H x en := by
  obtain ⟨b, h1, h2⟩ := paired_get h.prd e
  exact ⟨b, by rw [← h1, Array.getElem?_toList], h2⟩
theorem Ents.back {w : World} {H : Hp} {kvs : List Kvv} {es : Array DictEntry} (h : Ents w H kvs es) {i : Nat} {en : DictEntry} (e : es[i]? = some en) : ∃ x, kvs[i]? = some x ∧ EnV w H x en := by
  have hi : i < kvs.length := by rw [h.len]; exact (Array.getElem?_eq_some_iff.mp e).1
  obtain ⟨b, h1, h2⟩ := h.get (List.getElem?_eq_getElem hi)
  rw [e] at h1
  cases h1
  exact ⟨_, List.getElem?_eq_getElem hi, h2⟩
def rawO (d : Addr) (es : Array DictEntry) (ep : Nat) : HO := .ext fun h => h.DictRaw d es ep ∧ (d == sysModules) = false
/-- a dict of one's own, to be changed -/
def DN (w : World) (H : Hp) (d : Addr) (kvs : List Kvv) : Prop := ∃ es ep, H d = some (rawO d es ep) ∧ Ents w H kvs es
def IsDU (d : Addr) (u : HO) : Prop := (∃ kvs, u = .dK kvs) ∨ ∃ es ep, u = rawO d es ep
/-- a dict that stands still -/
def DF (w : World) (H : Hp) (d : Addr) (kvs : List Kvv) : Prop := ∃ od u es ep, H d = some (.frz od u) ∧ od.ExactDict ∧ od.data = .dict es ep ∧ (d == sysModules) = false ∧ Ents w H kvs es ∧ IsDU d u
theorem DF.mono {w : World} {H H' : Hp} {d : Addr} {kvs : List Kvv} (h : DF w H d kvs) (e : Same H H') : DF w H' d kvs := by
  obtain ⟨od, u, es, ep, h1, h2, h3, h4, h5, h6⟩ := h
  exact ⟨od, u, es, ep, e _ _ h1, h2, h3, h4, h5.up (fun b xs z => e b _ z), h6⟩
/-- a dict that may be read: any of the three -/
def kN : Key → NestedKey
  | .inl i => .num i
  | .inr x => .text x
theorem kN_inj {a b : Key} (h : kN a = kN b) : a = b := by
  cases a <;> cases b <;> simp only [kN, NestedKey.num.injEq, NestedKey.text.injEq] at h
  · rw [h]
  · cases h
  · cases h
  · rw [h]
theorem kN_kv (H : Hp) (k : Key) : KeyV H (kN k) (kV k) := by cases k <;> constructor
theorem kN_hash (w : World) (k : Key) : (kN k).hash w = keyH w k := by cases k <;> (simp only [kN, NestedKey.hash]; rfl)
theorem kN_depth (k : Key) : (kN k).depth ≤ 8 := by cases k <;> (simp only [kN, NestedKey.depth]; omega)
def kvvs (kvs : List (Key × V)) : List Kvv := kvs.map fun kv => (kN kv.1, kV kv.1, kv.2)
section
variable {X : Cx} {pins : List (Addr × Obj)} {σ : L2.St} {H : Hp} {s : Shared}
theorem pairs_ents {P : Program} {w : World} {H : Hp} : ∀ {kvs : List (Key × V)} {vs : List (Key × Value)} {es : List DictEntry}, KV kvs vs → Pairs (mixKind P w) es vs → (∀ e ∈ es, ∃ k, keyIs k e.key = true ∧ e.hash = keyH w k) → Paired (EnV w H) (kvvs kvs) es
  | _, _, _, .nil, .nil, _ => .nil
  | (k, v) :: _, (k', v') :: _, e :: es, .cons ⟨h1, h2⟩ t, .cons g1 g2 g3, hh => by
    have e1 : k = k' := h1
    subst e1
    refine .cons ⟨kN_kv H k, relV_key (show keyIs k _ = true from g1), ?_, kN_depth k, ?_⟩ (pairs_ents t g3 fun x hx => hh x (List.mem_cons_of_mem _ hx))
    · obtain ⟨k2, q1, q2⟩ := hh e List.mem_cons_self
      have e2 : k = k2 := (mixKind P w).inj _ _ _ (show keyIs k _ = true from g1) q1
      rw [q2, e2, kN_hash]
    · have e2 : e.val = v' := g2
      rw [e2]; exact h2
theorem kvvs_nod {kvs : List (Key × V)} {vs : List (Key × Value)} (r : KV kvs vs) (n : (vs.map (·.1)).Nodup) : ((kvvs kvs).map (·.1)).Nodup := by
  have e1 : kvs.map (·.1) = vs.map (·.1) := by
    have : ∀ {kvs : List (Key × V)} {vs : List (Key × Value)}, KV kvs vs → kvs.map (·.1) = vs.map (·.1) := by
      intro kvs vs r
      unfold KV at r
      induction r with
      | nil => rfl
      | cons h _ ih => rw [List.map_cons, List.map_cons, ih, h.1]
    exact this r
  unfold kvvs
  rw [List.map_map]
  have e2 : kvs.map ((fun x : Kvv => x.1) ∘ fun kv => (kN kv.1, kV kv.1, kv.2)) = (kvs.map (·.1)).map kN := by rw [List.map_map]; rfl
  rw [e2, e1]
  exact List.Pairwise.map kN (fun a b h z => h (kN_inj z)) n
/-- a dict as the layer knows it, read entry by entry -/
theorem dk_raw {d : Addr} {kvs : List (Key × V)} (hok : HOk X.prog X.w H s.heap) (h : ObjOk X.prog X.w H s.heap d (.dK kvs)) : ∃ o es ep, s.heap.get? d = some o ∧ o.ExactDict ∧ o.data = .dict es ep ∧ (d == sysModules) = false ∧ ∀ H2, Ents X.w H2 (kvvs kvs) es := by
  obtain ⟨z, hs, vs, kv, o, es, ep, ho, hx, hd, hk, hp, hn⟩ := h
  refine ⟨o, es, ep, ho, hx, hd, hs, fun H2 => ⟨pairs_ents kv hp fun e he => ?_, kvvs_nod kv hn, by unfold kvvs; rw [List.length_map]; exact z⟩⟩
  exact hk e (Array.mem_toList_iff.mp he)
theorem DN.raw {d : Addr} {kvs : List Kvv} (hok : HOk X.prog X.w H s.heap) (h : DN X.w H d kvs) : ∃ o es ep, H d = some (rawO d es ep) ∧ s.heap.get? d = some o ∧ o.ExactDict ∧ o.data = .dict es ep ∧ (d == sysModules) = false ∧ Ents X.w H kvs es := by
  obtain ⟨es, ep, h1, h2⟩ := h
  obtain ⟨⟨⟨o, ho, hx, hd⟩, hm⟩, _⟩ := hok _ _ h1
  exact ⟨o, es, ep, h1, ho, hx, hd, hm, h2⟩
theorem DF.raw {d : Addr} {kvs : List Kvv} (hok : HOk X.prog X.w H s.heap) (h : DF X.w H d kvs) : ∃ od u es ep, H d = some (.frz od u) ∧ s.heap.get? d = some od ∧ od.ExactDict ∧ od.data = .dict es ep ∧ (d == sysModules) = false ∧ Ents X.w H kvs es := by
  obtain ⟨od, u, es, ep, h1, h2, h3, h4, h5, _⟩ := h
  exact ⟨od, u, es, ep, h1, (hok _ _ h1).1, h2, h3, h4, h5⟩
theorem Ents.ks {kvs : List Kvv} {es : Array DictEntry} (I : Inv X pins σ H s) (h : Ents X.w H kvs es) : Ks X.w s.heap (kvs.map (·.1)) es := by
  refine ⟨by rw [List.length_map]; exact h.len, fun i e he => ?_, h.nod⟩
  obtain ⟨x, h1, h2⟩ := h.back he
  exact ⟨x.1, by rw [List.getElem?_map, h1]; rfl, h2.1.is I h2.2.1, h2.2.2.1, h2.2.2.2.1⟩
theorem tup_upd {H : Hp} {d : Addr} {o : HO} {u : HO} (h : H d = some u) (n : ∀ xs, u ≠ .tup xs) : ∀ b xs, H b = some (.tup xs) → upd H d o b = some (.tup xs) := fun b xs e => by
  rw [upd_ne fun z => by rw [z, h] at e; cases e; exact n _ rfl]; exact e
/-! ### a dict is made to stand still -/
def FrzS (w : World) (H : Hp) (d : Addr) (Q : Hp → Prop) : Prop :=
  (∃ kvs, H d = some (.dK kvs) ∧ ∀ od, DF w (upd H d (.frz od (.dK kvs))) d (kvvs kvs) → Q (upd H d (.frz od (.dK kvs)))) ∨
  ∃ kvs es ep, H d = some (rawO d es ep) ∧ Ents w H kvs es ∧ ∀ od, DF w (upd H d (.frz od (rawO d es ep))) d kvs → Q (upd H d (.frz od (rawO d es ep)))
theorem FrzS.run {d : Addr} {Q : Hp → Prop} (I : Inv X pins σ H s) (h : FrzS X.w H d Q) : ∃ H', Inv X pins σ H' s ∧ Q H' := by
  rcases h with ⟨kvs, hd, q⟩ | ⟨kvs, es, ep, hd, he, q⟩
  · obtain ⟨od, J⟩ := I.lock hd trivial
    refine ⟨_, J, q od ?_⟩
    obtain ⟨g1, g2⟩ := J.hok d _ upd_same
    obtain ⟨o, es, ep, ho, hx, hdt, hm, hE⟩ := dk_raw J.hok g2
    rw [g1] at ho
    cases ho
    exact ⟨od, _, es, ep, upd_same, hx, hdt, hm, hE _, .inl ⟨_, rfl⟩⟩
  · obtain ⟨od, J⟩ := I.lock hd trivial
    refine ⟨_, J, q od ?_⟩
    obtain ⟨g1, ⟨⟨o, ho, hx, hdt⟩, hm⟩, _⟩ := J.hok d _ upd_same
    rw [g1] at ho
    cases ho
    exact ⟨od, _, es, ep, upd_same, hx, hdt, hm, he.up (tup_upd hd fun xs z => nomatch z), .inr ⟨_, _, rfl⟩⟩
end
def tFrz (w : World) (te : TE) : TE := fun σ H Q => te σ H fun v H1 => ∃ d, FrzS w H1 d (fun H2 => Q v H2)
theorem pe_frz {X : Cx} {e : Expr} {te : TE} (h : PE X e te) : PE X e (tFrz X.w te) := by
  refine ⟨fun pins s σ H Q I hw => ?_⟩
  refine thn (h.run pins s σ H _ I hw) fun u s1 ⟨x, H1, I1, r, d, q⟩ => ?_
  obtain ⟨H2, I2, q⟩ := q.run I1
  exact ⟨x, H2, I2, r, q⟩
end My

set_option linter.all false
namespace My
open PySem PySem.Spec PyProof.Rows L2
/-! ### d[k] = v, any key -/
def putN (kvs : List Kvv) (k : NestedKey) (i v : V) : List Kvv := if k ∈ kvs.map (·.1) then kvs.map (fun x => if x.1 = k then (x.1, x.2.1, v) else x) else kvs ++ [(k, i, v)]
theorem putN_new {kvs : List Kvv} {k : NestedKey} {i v : V} (h : k ∉ kvs.map (·.1)) : putN kvs k i v = kvs ++ [(k, i, v)] := if_neg h
theorem putN_old {kvs : List Kvv} {k : NestedKey} {i v : V} (h : k ∈ kvs.map (·.1)) : putN kvs k i v = kvs.map (fun x => if x.1 = k then (x.1, x.2.1, v) else x) := if_pos h
theorem putN_keys_old {kvs : List Kvv} {k : NestedKey} {v : V} : (kvs.map (fun x => if x.1 = k then (x.1, x.2.1, v) else x)).map (·.1) = kvs.map (·.1) := by
  rw [List.map_map]
  refine List.map_congr_left fun x _ => ?_
  show (if x.1 = k then (x.1, x.2.1, v) else x).1 = x.1
  split <;> rfl
theorem paired_app {α β : Type} {G : α → β → Prop} : ∀ {l1 : List α} {l2 : List β} {m1 : List α} {m2 : List β}, Paired G l1 l2 → Paired G m1 m2 → Paired G (l1 ++ m1) (l2 ++ m2)
  | _, _, _, _, .nil, h => h
  | _, _, _, _, .cons a t, h => .cons a (paired_app t h)
theorem paired_mod {w : World} {H : Hp} {k : NestedKey} {v : V} {u : Value} (r : RelV v u) : ∀ {kvs : List Kvv} {es : List DictEntry} {j : Nat}, Paired (EnV w H) kvs es → (kvs.map (·.1)).Nodup → (kvs.map (·.1))[j]? = some k → Paired (EnV w H) (kvs.map (fun x => if x.1 = k then (x.1, x.2.1, v) else x)) (es.modify j (fun e => { e with val := u }))
  | _, _, _, .nil, _, e => by simp at e
  | x :: kvs, e :: es, 0, .cons h t, n, hj => by
    simp only [List.map_cons, List.getElem?_cons_zero, Option.some.injEq] at hj
    rw [List.map_cons, List.nodup_cons] at n
    rw [List.map_cons, List.modify_zero_cons, if_pos hj]
    refine .cons ⟨h.1, h.2.1, h.2.2.1, h.2.2.2.1, r⟩ ?_
    have : kvs.map (fun x => if x.1 = k then (x.1, x.2.1, v) else x) = kvs := by
      conv => rhs; rw [← List.map_id kvs]
      refine List.map_congr_left fun y hy => if_neg fun z => n.1 ?_
      rw [hj, ← z]
      exact List.mem_map.mpr ⟨y, hy, rfl⟩
    rw [this]
    exact t
  | x :: kvs, e :: es, j + 1, .cons h t, n, hj => by
    simp only [List.map_cons, List.getElem?_cons_succ] at hj
    rw [List.map_cons, List.nodup_cons] at n
    rw [List.map_cons, List.modify_succ_cons]
    rw [if_neg fun z => n.1 (by rw [z]; exact List.mem_of_getElem? hj)]
    exact .cons h (paired_mod r t n.2 hj)
theorem ents_put {w : World} {H H' : Hp} {kvs : List Kvv} {es es' : Array DictEntry} {k : NestedKey} {i v : V} {iu u : Value} (h : Ents w H kvs es) (hk : KeyV H k i) (ri : RelV i iu) (h8 : k.depth ≤ 8) (rv : RelV v u) (hz : kvs.length < sizeLine)
    (up : ∀ b xs, H b = some (.tup xs) → H' b = some (.tup xs))
    (c : (k ∉ kvs.map (·.1) ∧ es' = es.push ⟨k.hash w, iu, u⟩) ∨ ∃ (j : Nat) (e : DictEntry), (kvs.map (·.1))[j]? = some k ∧ es[j]? = some e ∧ es' = es.modify j (fun e => { e with val := u })) : Ents w H' (putN kvs k i v) es' := by
  rcases c with ⟨n, rfl⟩ | ⟨j, e, hj, he, rfl⟩
  · rw [putN_new n]
    refine ⟨?_, ?_, by rw [List.length_append, List.length_singleton]; omega⟩
    · rw [Array.toList_push]
      exact paired_app (h.up up).prd (.cons ⟨hk.up up, ri, rfl, h8, rv⟩ .nil)
    · rw [List.map_append, List.nodup_append]
      refine ⟨h.nod, by simp, fun x hx y hy z => n ?_⟩
      simp only [List.map_cons, List.map_nil, List.mem_singleton] at hy
      rw [← hy, ← z]; exact hx
  · rw [putN_old (List.mem_of_getElem? hj)]
    refine ⟨?_, by rw [putN_keys_old]; exact h.nod, by rw [List.length_map]; exact h.lt⟩
    have := paired_mod (w := w) rv (h.up up).prd h.nod hj
    have e2 : (es.modify j (fun e => { e with val := u })).toList = es.toList.modify j (fun e => { e with val := u }) := by
      cases es; simp
    rw [e2]; exact this
def rSetN (w : World) : V → V → V → Hp → (Hp → Prop) → Prop := fun o i v H Q => ∃ (d : Addr) (k : NestedKey), o = .ref d ∧ KeyV H k i ∧ k.depth ≤ 8 ∧
  ((∃ kvs, H d = some (.dK kvs) ∧ kvs.length < sizeLine ∧ ∀ H', (∀ b, b ≠ d → H' b = H b) → DN w H' d (putN (kvvs kvs) k i v) → Q H') ∨
   ∃ kvs, DN w H d kvs ∧ kvs.length < sizeLine ∧ ∀ H', (∀ b, b ≠ d → H' b = H b) → DN w H' d (putN kvs k i v) → Q H')
section
variable {X : Cx} {pins : List (Addr × Obj)} {σ : L2.St} {H : Hp} {s : Shared}
theorem ext_ok {P : Program} {w : World} {H : Hp} {h : Heap} {d : Addr} {es : Array DictEntry} {ep : Nat} (r : h.DictRaw d es ep) (m : (d == sysModules) = false) : ObjOk P w H h d (rawO d es ep) :=
  ⟨⟨r, m⟩, (let ⟨o, e, _⟩ := r; ⟨o, e⟩), fun h1 h2 q k => ⟨(let ⟨o, e, x⟩ := q.1; ⟨o, k o e, x⟩), q.2⟩⟩
theorem set_any (hu : X.A.units + 9 < cLine) : PSet X (rSetN X.w) := by
  intro pins s σ H o i v ov iv u Q I ro ri rv h
  obtain ⟨d, k, rfl, hk, h8, h⟩ := h
  obtain rfl : ov = Value.ref d := ro
  have key : ∀ {kvs : List Kvv} {ob : Obj} {es : Array DictEntry} {ep : Nat} {hd : HO}, H d = some hd → Mut (some hd) → (∀ xs, hd ≠ .tup xs) → s.heap.get? d = some ob → ob.ExactDict → ob.data = .dict es ep → (d == sysModules) = false → Ents X.w H kvs es → kvs.length < sizeLine →
      (∀ H', (∀ b, b ≠ d → H' b = H b) → DN X.w H' d (putN kvs k i v) → Q H') → wpAny (model X.prog X.w) X.A (setItem (.ref d) iv u) (fun _ s' => ∃ H', Inv X pins σ H' s' ∧ Q H') X.xe s := by
    intro kvs ob es ep hd hH mu nt ho hx hdt hm hE hz q
    refine setItem_any hu (hk.is I ri) h8 ho hx hdt (hE.ks I) (by rw [← hE.len]; exact hE.lt) fun h' es' ep' hr hs hc => ?_
    have up : ∀ b xs, H b = some (.tup xs) → upd H d (rawO d es' ep') b = some (.tup xs) := tup_upd hH nt
    refine ⟨upd H d (rawO d es' ep'), I.write (x := d) (e := d) (by rw [hH]; exact mu) (.inl rfl) (fun b u hb e => (hs.2 b hb).trans e) (let ⟨o, e, _⟩ := hr; ⟨o, e⟩) (ext_ok hr hm), q _ (fun b hb => upd_ne hb) ⟨es', ep', upd_same, ents_put hE hk ri h8 rv hz up hc⟩⟩
  rcases h with ⟨kvs, hd, hz, q⟩ | ⟨kvs, hd, hz, q⟩
  · obtain ⟨ob, es, ep, ho, hx, hdt, hm, hE⟩ := dk_raw I.hok (I.hok _ _ hd)
    exact key hd trivial (fun _ z => nomatch z) ho hx hdt hm (hE H) (by unfold kvvs; rw [List.length_map]; exact hz) q
  · obtain ⟨ob, es, ep, hH, ho, hx, hdt, hm, hE⟩ := hd.raw I.hok
    exact key hH trivial (fun _ z => nomatch z) ho hx hdt hm hE hz q
/-! ### {k: v}, one entry, any key -/
def tDisp1 (w : World) (tk tv : TE) : TE := fun σ H Q => ∀ p, H p = none → tk σ (upd H p (rawO p #[] 0)) fun x H1 => tv σ H1 fun y H2 => ∃ k : NestedKey, H2 p = some (rawO p #[] 0) ∧ KeyV H2 k x ∧ k.depth ≤ 8 ∧
  ∀ H3, (∀ b, b ≠ p → H3 b = H2 b) → DN w H3 p [(k, x, y)] → Q (.ref p) H3
theorem pe_disp1 {ek ev : Expr} {tk tv : TE} {pos : Pos} (hu : X.A.units + 8 < cLine) (hk : PE X ek tk) (hv : PE X ev tv) : PE X (.Dict [some ek] [ev] pos) (tDisp1 X.w tk tv) := by
  refine ⟨fun pins s σ H Q I q => ?_⟩
  have hn := I.hok.fresh (Nat.le_refl s.heap.objs.size)
  have hm : (s.heap.objs.size == sysModules) = false := beq_eq_false_iff_ne.mpr (Nat.ne_of_gt I.big)
  have I1 := I.laid (a := s.heap.objs.size) (o := rawO s.heap.objs.size #[] 0) (h' := s.heap.push { cls := .type "dict", data := .dict #[] }) (t' := s.toks) (fun _ _ q => Heap.get?_push_of_some _ q) (Nat.le_refl _)
    (ext_ok ⟨_, Heap.get?_push_size _ rfl, ⟨rfl, rfl, rfl⟩, rfl⟩ hm)
  rw [arm_eval_Dict, zip_pairTrees _ _ _ _ rfl rfl, dictDisplay_pairs _ (by simp [pairTrees]) (by simp [pairTrees])]
  refine wpAny_bind (wpAny_standAt (wpAny_bind ?_))
  unfold subDict
  refine wpAny_bind (wpAny_alloc ?_)
  refine wpAny_bind (wpAny_holding ?_)
  rw [if_pos (by simp [pairTrees])]
  refine wpAny_bind (pairTrees_cons_walk ?_)
  refine thn (hk.run pins _ σ _ _ I1 (q _ hn)) fun u1 s1 ⟨x, H1, J1, r1, q1⟩ => ?_
  refine thn (hv.run pins _ σ _ _ J1 q1) fun u2 s2 ⟨y, H2, J2, r2, k, hp, hkv, h8, q2⟩ => ?_
  refine pairTrees_nil_walk (wpAny_holding ?_)
  obtain ⟨⟨⟨ob, ho, hx, hd⟩, _⟩, _⟩ := J2.hok _ _ hp
  rw [List.forIn_cons]
  refine wpAny_bind (wpAny_bind (wpAny_bind (dictSet_any hu (hkv.is J2 r1) h8 ho hx hd (ks := []) ⟨rfl, (fun i e he => by simp at he), List.nodup_nil⟩ (Nat.zero_le _) fun h' es' ep' hr hs hc => wpAny_pure ?_)))
  dsimp only
  rw [List.forIn_nil]
  have up : ∀ b xs, H2 b = some (.tup xs) → upd H2 s.heap.objs.size (rawO s.heap.objs.size es' ep') b = some (.tup xs) := tup_upd hp fun xs z => nomatch z
  refine wpAny_pure (wpAny_pure (wpAny_pure (wpAny_pure ⟨.ref _, upd H2 s.heap.objs.size (rawO s.heap.objs.size es' ep'), J2.write (x := s.heap.objs.size) (e := s.heap.objs.size) (by rw [hp]; trivial) (.inl rfl) (fun b u hb e => (hs.2 b hb).trans e) (let ⟨o, e, _⟩ := hr; ⟨o, e⟩) (ext_ok hr hm), rfl,
    q2 _ (fun b hb => upd_ne hb) ⟨es', ep', upd_same, ?_⟩⟩)))
  have := ents_put (kvs := []) (es := #[]) (w := X.w) (H := H2) (H' := upd H2 s.heap.objs.size (rawO s.heap.objs.size es' ep')) ⟨.nil, List.nodup_nil, Nat.zero_le _⟩ hkv r1 h8 r2 (by show 0 < sizeLine; decide) up hc
  rw [putN_new (by simp)] at this
  exact this
/-! ### dict(l), l a list of pairs -/
def putsN (kvs more : List Kvv) : List Kvv := more.foldl (fun acc x => putN acc x.1 x.2.1 x.2.2) kvs
theorem putN_len {kvs : List Kvv} {k : NestedKey} {i v : V} : (putN kvs k i v).length ≤ kvs.length + 1 := by
  unfold putN
  split
  · rw [List.length_map]; omega
  · simp
theorem putsN_len : ∀ (more kvs : List Kvv), (putsN kvs more).length ≤ kvs.length + more.length
  | [], _ => Nat.le_refl _
  | x :: r, kvs => by
    have h1 := putsN_len r (putN kvs x.1 x.2.1 x.2.2)
    have h2 := putN_len (kvs := kvs) (k := x.1) (i := x.2.1) (v := x.2.2)
    show (putsN (putN kvs x.1 x.2.1 x.2.2) r).length ≤ _
    rw [List.length_cons]; omega
theorem putsN_snoc (kvs more : List Kvv) (x : Kvv) : putsN kvs (more ++ [x]) = putN (putsN kvs more) x.1 x.2.1 x.2.2 := by unfold putsN; rw [List.foldl_append]; rfl
def rDictP (w : World) (K : PySem.W.Frag) : List V → Hp → VK → Prop := fun xs H Q => ∃ (a : Addr) (zs : List (Addr × Kvv)), xs = [.ref a] ∧ SqL K H a (zs.map fun z => V.ref z.1) ∧ zs.length ≤ 1000 ∧
  (∀ z ∈ zs, H z.1 = some (.tup [z.2.2.1, z.2.2.2]) ∧ KeyV H z.2.1 z.2.2.1 ∧ z.2.1.depth ≤ 8) ∧ ∀ p H', H p = none → (∀ b, b ≠ p → H' b = H b) → DN w H' p (putsN [] (zs.map (·.2))) → Q (.ref p) H'
theorem call_dictP' (hcalm : X.calm = true) (hu : X.A.units + 64 < cLine) : CallR X (.type "dict") (rDictP X.w X.K) := by
  intro pins s σ H xs us Q I r q
  obtain ⟨a, zs, ex, hq, h1k, hz, q⟩ := q
  subst ex
  obtain ⟨u, eu, rx⟩ := vals1 r
  subst eu
  cases rx
  obtain ⟨its, rv, pl, hsz⟩ := I.list hq
  obtain ⟨o, n, ho, hc, hd, hdat⟩ := pl
  have ei : its = zs.map fun z => Value.ref z.1 := by
    have := refs_at (ps := zs.map (·.1)) (us := its) (by rw [List.map_map]; exact rv)
    rw [this, List.map_map]; rfl
  subst ei
  have hm : (s.heap.objs.size == sysModules) = false := beq_eq_false_iff_ne.mpr (Nat.ne_of_gt I.big)
  -- the pairs as they stand
  have look : ∀ z ∈ zs, ∃ (k v : Value) (o2 : Obj) (n2 : Nat), s.heap.get? z.1 = some o2 ∧ o2.cls = .type "tuple" ∧ o2.data = .seq #[k, v] n2 ∧ RelV z.2.2.1 k ∧ RelV z.2.2.2 v := fun z hzm => by
    obtain ⟨_, its, rv2, o2, ho2, hc2, n2, hd2⟩ := I.hok _ _ (hz z hzm).1
    obtain ⟨x1, x2, ei2, r1, r2⟩ := vals2 rv2
    subst ei2
    exact ⟨x1, x2, o2, n2, ho2, hc2, hd2, r1, r2⟩
  have mk : ∃ ps : List (Value × Value), ps.length = zs.length ∧ ∀ (j : Nat) (z : Addr × Kvv), zs[j]? = some z → ∃ k v, ps[j]? = some (k, v) ∧ RelV z.2.2.1 k ∧ RelV z.2.2.2 v ∧ s.heap.IsTuple z.1 #[k, v] := by
    clear q hq rv ho hdat hd hc h1k hsz
    induction zs with
    | nil => exact ⟨[], rfl, fun j z e => by simp at e⟩
    | cons z r ih =>
      obtain ⟨ps, l, h⟩ := ih (fun y hy => hz y (List.mem_cons_of_mem _ hy)) fun y hy => look y (List.mem_cons_of_mem _ hy)
      obtain ⟨k, v, o2, n2, g1, g2, g3, g4, g5⟩ := look z List.mem_cons_self
      refine ⟨(k, v) :: ps, by simp [l], fun j y e => ?_⟩
      cases j with
      | zero =>
        simp only [List.getElem?_cons_zero, Option.some.injEq] at e
        subst e
        exact ⟨k, v, rfl, g4, g5, o2, g1, g2, n2, g3⟩
      | succ j => exact h j y (by simpa using e)
  obtain ⟨ps, lps, hps⟩ := mk
  have psz : ∀ (j : Nat) (k v : Value), ps[j]? = some (k, v) → ∃ z, zs[j]? = some z ∧ RelV z.2.2.1 k ∧ RelV z.2.2.2 v ∧ s.heap.IsTuple z.1 #[k, v] := fun j k v e => by
    have hj : j < zs.length := by rw [← lps]; exact (List.getElem?_eq_some_iff.mp e).1
    obtain ⟨k2, v2, e2, r1, r2, r3⟩ := hps j _ (List.getElem?_eq_getElem hj)
    rw [e] at e2
    cases e2
    exact ⟨_, List.getElem?_eq_getElem hj, r1, r2, r3⟩
  let Tab : Nat → Heap → Prop := fun i h => ∃ es ep, h.DictRaw s.heap.objs.size es ep ∧ Ents X.w H (putsN [] ((zs.map (·.2)).take i)) es ∧ ∀ b o, s.heap.get? b = some o → h.get? b = some o
  have szT : ∀ i, (putsN [] ((zs.map (·.2)).take i)).length ≤ 1000 := fun i => by
    have := putsN_len ((zs.map (·.2)).take i) []
    rw [List.length_take, List.length_map, List.length_nil] at this
    omega
  refine PySem.call_dict_arg (PairArg.list a (zs.map fun z => Value.ref z.1).toArray (fun j => ((zs[j]?).map (·.1)).getD 0) ps) ⟨⟨o, n, ho, hc, hd, hdat⟩, by simp [lps], fun j k v e => ?_⟩ fun s1 hs1 hdf ok1 => ?_
  · obtain ⟨z, ez, _, _, r3⟩ := psz j k v e
    refine ⟨by simp [ez], .inl ?_⟩
    show s.heap.IsTuple (((zs[j]?).map (·.1)).getD 0) _
    rw [ez]; exact r3
  · subst hs1
    refine updateFrom_arg (Tab := Tab) (PairArg.list a (zs.map fun z => Value.ref z.1).toArray (fun j => ((zs[j]?).map (·.1)).getD 0) ps) .none (I.ok.hd hcalm) ok1 hdf ?_ ?_ ?_ ?_ ?_
    · refine ⟨#[], 0, ⟨_, Heap.get?_push_size _ rfl, ⟨rfl, rfl, rfl⟩, rfl⟩, ?_, fun b o e => Heap.get?_push_of_some _ e⟩
      exact ⟨.nil, List.nodup_nil, Nat.zero_le _⟩
    · rintro i h ⟨es, ep, ⟨o, e, _⟩, _⟩
      exact Heap.lt_size e
    · rintro i h h' wr' nd hw ⟨es, ep, ⟨o, e, x⟩, hE, old⟩ k
      refine ⟨es, ep, ⟨o, k _ _ nd e, x⟩, hE, fun b o e => k b o (fun hb => ?_) (old b o e)⟩
      rcases hw b hb with z | z
      · cases z
      · rw [show (s.heap.push { cls := .type "dict", data := .dict #[] }).get? b = some o from Heap.get?_push_of_some _ e] at z
        cases z
    · rintro i k v s' Q' E' hi hr ⟨es, ep, ⟨ob, hob, hx, hdt⟩, hE, old⟩ hT qs
      obtain ⟨z, ez, r1, r2, r3⟩ := psz i k v hr
      obtain ⟨g1, g2, g3⟩ := hz z (List.mem_of_getElem? ez)
      have lift : ∀ {kk : NestedKey} {u : Value}, NestedIs s.heap kk u → NestedIs s'.heap kk u := fun x => NestedIs.at (fun b o vs m e _ => old b o e) _ _ x
      have KS := hE.ks I
      refine dictSet_any (by show X.A.units + 1 + 1 + 8 < cLine; omega) (lift (g2.is I r1)) g3 hob hx hdt (ks := (putsN [] ((zs.map (·.2)).take i)).map (·.1)) ⟨KS.len, (fun i e he => let ⟨x, h1, h2, h3⟩ := KS.at' i e he; ⟨x, h1, lift h2, h3⟩), KS.nod⟩ (by rw [← hE.len]; exact hE.lt) fun h' es' ep' hr' hs' hc' => qs h' _ ⟨es', ep', hr', ?_, fun b o e => ?_⟩ hs'
      · have et : (zs.map (·.2)).take (i + 1) = (zs.map (·.2)).take i ++ [z.2] := by
          rw [List.take_add_one, List.getElem?_map, ez]; rfl
        rw [et, putsN_snoc]
        exact ents_put hE g2 r1 g3 r2 (by have := szT i; rw [sizeLine_eq]; omega) (fun b xs e => e) hc'
      · exact (hs'.2 b (fun hb => by
          rw [hb] at e
          exact absurd (Heap.lt_size e) (Nat.lt_irrefl _))).trans (old b o e)
    · rintro h' tk ⟨es, ep, hr, hE, old⟩ kp
      refine ⟨rfl, ?_⟩
      have up : ∀ b xs, H b = some (.tup xs) → upd H s.heap.objs.size (rawO s.heap.objs.size es ep) b = some (.tup xs) := fun b xs e => by
        rw [upd_ne (fun hb => by rw [hb, I.hok.fresh (Nat.le_refl _)] at e; cases e)]; exact e
      rw [lps, ← List.length_map (f := fun z : Addr × Kvv => z.2) (as := zs), List.take_length] at hE
      exact ⟨.ref _, upd H s.heap.objs.size (rawO s.heap.objs.size es ep), I.laid (t' := tk) (fun b o e => old b o e) (Nat.le_refl _) (ext_ok hr hm), rfl, q _ _ (I.hok.fresh (Nat.le_refl _)) (fun b hb => upd_ne hb) ⟨es, ep, upd_same, hE.up up⟩⟩
end
end My

set_option linter.all false
namespace My
open PySem PySem.Spec PyProof.Rows L2
/-! ### a dict that stands still: its length, its walks, what is in it -/
section
variable {prog : Program} {w : World} {A : Around} {E : Value → Shared → Prop} {s : Shared}
theorem len_raw {d : Addr} {es : Array DictEntry} {ep : Nat} {Q : Value → Shared → Prop} (hd : (d == sysModules) = false) (hm : s.heap.DictRaw d es ep) (hz : es.size ≤ sizeLine) (q : ∀ t s', s' = { s with toks := t } → Q (.int es.size (s.toks + 1)) s') : wpAny (model prog w) A (call (.builtin "len") [.ref d]) Q E s := by
  have ln : (es.size : Int) < 2 ^ 63 := by rw [sizeLine_eq] at hz; omega
  refine Calls.call_function_entry kind_len plain_len entry_len (args_len1 _) ?_
  unfold Builtin.«len»
  refine wpAny_bind (m := oneArg "len" _) (wpAny_pure ?_)
  refine wpAny_bind (m := callSpecial? (.ref d) (Str.ofString "__len__")) (wpAny_callSpecial?_slot (name := Str.ofString "__len__") hm.typeIs F.slot_dict_len
    (call_meetsIn F.slot_dict_len hm.typeIs F.entry_dict_len (F.args_dict_len_1 _) (meets_dict_len_raw d hd) ⟨es, ep, hm, ?_⟩))
  show wpAny _ _ _ _ _ { s with toks := s.toks + 1 }
  refine wpAny_bind (wpAny_holding (wpAny_pure (wpAny_bind (wpAny_letGo ?_))))
  show wpAny _ _ (if ((es.size : Nat) : Int) < 0 then _ else _) _ _ _
  rw [if_neg (by omega)]
  show wpAny _ _ (if ((es.size : Nat) : Int) ≥ 2 ^ 63 then _ else _) _ _ _
  rw [if_neg (by omega)]
  exact wpAny_bind (wpAny_mkInt (wpAny_pure ⟨_, rfl, q _ _ rfl⟩))
theorem meets_vals_raw {d : Addr} (hd : (d == sysModules) = false) :
    MeetsIn prog w (Builtin.«dict.values» ⟨[.ref d], []⟩) (fun _ R s => (∃ es ep, s.heap.DictRaw d es ep) ∧ R (.ok (.ret (.ref s.heap.objs.size))) { s with heap := s.heap.push { cls := .type "dict_values", data := .fields #[.ref d] } }) :=
  .of_wp fun A R s ⟨⟨es, ep, hm⟩, q⟩ => by
    unfold Builtin.«dict.values»
    refine wpAny_bind ?_
    unfold Builtin.Dict.noArgs
    refine wpAny_bind (wpAny_notOrdered_dict hm.typeIs (wpAny_pure ?_))
    show wpAny _ _ (Builtin.Dict.showsAll d >>= _) _ _ s
    unfold Builtin.Dict.showsAll
    rw [if_neg (by rw [hd]; exact Bool.false_ne_true)]
    exact wpAny_bind (wpAny_pure (wpAny_bind (wpAny_newObj_type (wpAny_pure ⟨_, rfl, q⟩))))
end
section
variable {X : Cx}
theorem call_lenF : CallR X (.builtin "len") (fun xs H Q => ∃ d kvs, xs = [V.ref d] ∧ DF X.w H d kvs ∧ Q (.int kvs.length) H) := by
  intro pins s σ H xs us Q I r h
  obtain ⟨d, kvs, rfl, hd, q⟩ := h
  obtain ⟨u, rfl, rx⟩ := vals1 r
  cases rx
  obtain ⟨od, u, es, ep, _, ho, hx, hdt, hm, hE⟩ := hd.raw I.hok
  refine len_raw hm ⟨od, ho, hx, hdt⟩ (by rw [← hE.len]; exact hE.lt) fun t s' e => ?_
  subst e
  exact ⟨.int kvs.length, H, I.tok _, ⟨_, by rw [hE.len]⟩, q⟩
def rIsiF (w : World) (K : PySem.W.Frag) : List V → Hp → VK → Prop := fun xs H Q => ∃ (d : Addr) (kvs : List Kvv) (T : String) (b : Bool), xs = [.ref d, .ty T] ∧ DF w H d kvs ∧ kitB "dict" T = some b ∧ Q (.bl b) H
theorem call_isiF : CallR X (.builtin "isinstance") (rIsiF X.w X.K) := by
  intro pins s σ H xs us Q I r h
  obtain ⟨d, kvs, T, b, rfl, hd, hk, q⟩ := h
  obtain ⟨u1, u2, rfl, r1, r2⟩ := vals2 r
  cases (show u1 = Value.ref d from r1)
  cases (show u2 = Value.type T from r2)
  obtain ⟨od, u, es, ep, _, ho, hx, hdt, hm, hE⟩ := hd.raw I.hok
  exact PySem.W.kia_one (PySem.W.kitx_dict) I.kIn ⟨od, ho, hx.1⟩ (kit_ty hk) (fun z => nomatch z) fun tk => ⟨.bl b, H, I.tok tk, rfl, q⟩
/-- k in d -/
theorem op_inF (hu : X.A.units + 9 < cLine) : OpR X (compareOp .In) (fun x y H Q => ∃ (d : Addr) (kvs : List Kvv) (k : NestedKey), y = .ref d ∧ DF X.w H d kvs ∧ KeyV H k x ∧ k.depth ≤ 8 ∧ Q (.bl (decide (k ∈ kvs.map (·.1)))) H) := by
  intro pins s σ H x y v u Q I rx ry h
  obtain ⟨d, kvs, k, rfl, hd, hk, h8, q⟩ := h
  cases (show u = Value.ref d from ry)
  obtain ⟨od, hu', es, ep, _, ho, hx, hdt, hm, hE⟩ := hd.raw I.hok
  show wpAny _ _ (do return Value.bool (← contains (.ref d) v)) _ _ s
  exact wpAny_bind (contains_any hu (hk.is I rx) h8 hm ho hx hdt (hE.ks I) (wpAny_pure ⟨.bl (decide (k ∈ kvs.map (fun x : Kvv => x.1))), H, I.tok _, rfl, q⟩))
end
/-! walks -/
def ItkF (w : World) (d : Addr) (od : Obj) (kvs : List Kvv) : It :=
  ⟨fun i H => (∃ u, H d = some (.frz od u)) ∧ DF w H d kvs ∧ i < kvs.length, fun i H x H' => H' = H ∧ ∃ k v, kvs[i]? = some (k, x, v), fun i H => (∃ u, H d = some (.frz od u)) ∧ DF w H d kvs ∧ kvs.length ≤ i⟩
def ItvF (w : World) (d : Addr) (od : Obj) (kvs : List Kvv) : It :=
  ⟨fun i H => (∃ u, H d = some (.frz od u)) ∧ DF w H d kvs ∧ i < kvs.length, fun i H x H' => H' = H ∧ ∃ k v, kvs[i]? = some (k, v, x), fun i H => (∃ u, H d = some (.frz od u)) ∧ DF w H d kvs ∧ kvs.length ≤ i⟩
section
variable {P : Program} {w : World} {K : PySem.W.Frag} {tg : Expr} {d : Addr} {o : Obj} {es : Array DictEntry} {ep : Nat}
theorem df_at {X : Cx} {pins : List (Addr × Obj)} {σ : L2.St} {H : Hp} {s : Shared} {kvs : List Kvv} (I : Inv X pins σ H s) (h1 : ∃ u, H d = some (.frz o u)) (h2 : DF X.w H d kvs) (hod : o.data = .dict es ep) : s.heap.get? d = some o ∧ o.ExactDict ∧ (d == sysModules) = false ∧ Ents X.w H kvs es := by
  obtain ⟨u, h1⟩ := h1
  obtain ⟨od, u2, es2, ep2, g1, ho, hx, hdt, hm, hE⟩ := h2.raw I.hok
  rw [h1] at g1
  cases g1
  obtain ⟨rfl, rfl⟩ := dict_ep hod hdt
  exact ⟨ho, hx, hm, hE⟩
theorem turn_keysF {kvs : List Kvv} (it : Addr) (hod : o.data = .dict es ep) : Turn P w K tg (ItkF w d o kvs) [it] it (fun i h => h.IsKeyIter it d i kvs.length ep) where
  mem := by simp
  obj := fun i h st b hb => by
    obtain rfl : b = it := by simpa using hb
    obtain ⟨oi, e, c, dd⟩ := st
    exact ⟨oi, e, fun v z => by rw [dd] at z; cases z⟩
  keep := fun i h h' st k => st.at fun oi e => k it (by simp) oi e
  item := by
    intro X hP hw hK hc i pins s σ H E I hf st hg
    subst hP hw hK
    obtain ⟨h1, h2, hi⟩ := hg
    obtain ⟨f0, f1, f2, f3, f4, f5⟩ := hf it (by simp)
    obtain ⟨hgd, hx, hm, hE⟩ := df_at I h1 h2 hod
    obtain ⟨⟨k, kv, v⟩, hkv⟩ : ∃ p, kvs[i]? = some p := ⟨kvs[i], List.getElem?_eq_getElem hi⟩
    obtain ⟨en, hen, hev⟩ := hE.get hkv
    refine next_key_item st hgd hod hE.len.symm hen fun h' st' sb => ?_
    have I1 : Inv X pins σ H { s with heap := h' } := I.turned (t' := s.toks) (fun b ob hb e => (sb.2 b hb).trans e) f0 f1 f3 f4 f5
    obtain ⟨oi, e, c, dd⟩ := id st'
    exact ⟨en.key, rfl, go_of (s := { s with heap := h' }) e c dd (by decide) ⟨kv, H, I1, hev.2.1, ⟨rfl, k, v, hkv⟩, st', fun b hb => (hf b hb).1⟩⟩
  done := by
    intro X hP hw hK hc i pins s σ H E I hf st hg
    subst hP hw hK
    obtain ⟨h1, h2, hi⟩ := hg
    obtain ⟨f0, f1, f2, f3, f4, f5⟩ := hf it (by simp)
    obtain ⟨hgd, hx, hm, hE⟩ := df_at I h1 h2 hod
    exact next_key_end (I.ok.hd hc) st hgd hod hE.len.symm hi fun h' eb => ⟨rfl, I.turned (t' := s.toks) (fun b ob hb e => eb b ob hb e) f0 f1 f3 f4 f5⟩
  self := fun A i s Q E st h => wpAny_pyIter_keyiter st h
theorem turn_valsF {kvs : List Kvv} (it : Addr) (hod : o.data = .dict es ep) : Turn P w K tg (ItvF w d o kvs) [it] it (fun i h => h.IsValIter it d i kvs.length ep) where
  mem := by simp
  obj := fun i h st b hb => by
    obtain rfl : b = it := by simpa using hb
    obtain ⟨oi, e, c, dd⟩ := st
    exact ⟨oi, e, fun v z => by rw [dd] at z; cases z⟩
  keep := fun i h h' st k => st.at fun oi e => k it (by simp) oi e
  item := by
    intro X hP hw hK hc i pins s σ H E I hf st hg
    subst hP hw hK
    obtain ⟨h1, h2, hi⟩ := hg
    obtain ⟨f0, f1, f2, f3, f4, f5⟩ := hf it (by simp)
    obtain ⟨hgd, hx, hm, hE⟩ := df_at I h1 h2 hod
    obtain ⟨⟨k, kv, v⟩, hkv⟩ : ∃ p, kvs[i]? = some p := ⟨kvs[i], List.getElem?_eq_getElem hi⟩
    obtain ⟨en, hen, hev⟩ := hE.get hkv
    have hlt : i < es.size := by rw [← hE.len]; exact hi
    rw [hE.len] at st
    refine wpAny_pyNext_values_item_raw st ⟨o, hgd, hx, hod⟩ hlt fun h' st' sb => ?_
    have I1 : Inv X pins σ H { s with heap := h' } := I.turned (t' := s.toks) (fun b ob hb e => (sb.2 b hb).trans e) f0 f1 f3 f4 f5
    obtain ⟨oi, e, c, dd⟩ := id st'
    have een : es[i] = en := by rw [Array.getElem?_eq_getElem hlt] at hen; exact Option.some.inj hen
    refine ⟨es[i].val, rfl, go_of (s := { s with heap := h' }) e c dd (by decide) ⟨v, H, I1, by rw [een]; exact hev.2.2.2.2, ⟨rfl, k, kv, hkv⟩, ?_, fun b hb => (hf b hb).1⟩⟩
    show h'.IsValIter it d (i + 1) kvs.length _
    rw [hE.len]; exact st'
  done := by
    intro X hP hw hK hc i pins s σ H E I hf st hg
    subst hP hw hK
    obtain ⟨h1, h2, hi⟩ := hg
    obtain ⟨f0, f1, f2, f3, f4, f5⟩ := hf it (by simp)
    obtain ⟨hgd, hx, hm, hE⟩ := df_at I h1 h2 hod
    rw [hE.len] at st
    exact wpAny_pyNext_values_end_raw (I.ok.hd hc) st ⟨o, hgd, hx, hod⟩ (by rw [← hE.len]; exact hi) fun h' eb => ⟨rfl, I.turned (t' := s.toks) (fun b ob hb e => eb b ob hb e) f0 f1 f3 f4 f5⟩
  self := fun A i s Q E st h => wpAny_pyIter_valiter st h
end
def iKeysF (w : World) (td : TE) : TI := fun σ H R => td σ H fun x H1 => ∃ d kvs, x = .ref d ∧ DF w H1 d kvs ∧ ∀ od u, H1 d = some (.frz od u) → R (ItkF w d od kvs) H1
def iValsF (w : World) (td : TE) : TI := fun σ H R => td σ H fun x H1 => ∃ d kvs, x = .ref d ∧ DF w H1 d kvs ∧ ∀ od u, H1 d = some (.frz od u) → R (ItvF w d od kvs) H1
section
variable {X : Cx} {tg e : Expr} {td : TE} {apos cpos : Pos}
theorem pi_keysF (he : PE X e td) : PI X tg e (iKeysF X.w td) := by
  refine ⟨fun pins s σ H R I h => ?_⟩
  refine thn (he.run pins s σ H _ I h) fun u s1 ⟨x, H1, I1, rx, d, kvs, ex, hd, q⟩ => ?_
  subst ex
  obtain rfl : u = Value.ref d := rx
  obtain ⟨od, u2, es, ep, hf, ho, hx, hdt, hm, hE⟩ := hd.raw I1.hok
  refine iter_keys hm ho hx hdt (pi_one (tk := s1.toks) I1 _ (turn_keysF _ hdt) ⟨_, Heap.get?_push_size _ rfl, rfl, ?_⟩ (q od u2 hf))
  rw [hE.len]; rfl
theorem pi_valsF (he : PE X e td) (hbase : attributeBase e "values" X.env (eval e X.env) = eval e X.env := by rfl) (hline : (apos.endLine == cpos.line) = true := by rfl) : PI X tg (.Call (.Attribute e "values" apos) [] [] cpos) (iValsF X.w td) := by
  refine ⟨fun pins s σ H R I h => ?_⟩
  refine wpAny_Call_method (T := "dict") (id := "dict.values") hbase rfl hline F.plainAttrs_dict F.slot_dict_values F.type_dict_values (thn (he.run pins s σ H _ I h) fun u s1 ⟨x, H1, I1, rx, d, kvs, ex, hd, q⟩ => ?_)
  subst ex
  obtain rfl : u = Value.ref d := rx
  obtain ⟨od, u2, es, ep, hf, ho, hx, hdt, hm, hE⟩ := hd.raw I1.hok
  have raw : s1.heap.DictRaw d es ep := ⟨od, ho, hx, hdt⟩
  refine ⟨raw.typeIs, (fun b z => by cases z; exact ⟨od, ho, hx.2.1⟩), ?_⟩
  have I2 : Inv X pins σ H1 { s1 with heap := s1.heap.push { cls := .type "dict_values", data := .fields #[.ref d] } } := I1.kept (t' := s1.toks) fun b ob q => Heap.get?_push_of_some _ q
  have fin : wpAny (model X.prog X.w) X.A (pyIter (.ref s1.heap.objs.size)) (PIE X pins σ tg R) X.xe { s1 with heap := s1.heap.push { cls := .type "dict_values", data := .fields #[.ref d] } } := by
    refine wpAny_pyIter_values_raw (d := d) (es := es) (ep := ep) ⟨_, Heap.get?_push_size _ rfl, rfl, rfl⟩ (raw.push _) (pi_one (tk := s1.toks) I2 _ (turn_valsF _ hdt) ⟨_, Heap.get?_push_size _ rfl, rfl, ?_⟩ (q od u2 hf))
    rw [hE.len]; rfl
  show wpAny _ _ (callWith cpos (.builtin "dict.values") [.ref d] [] []) _ X.xe s1
  exact method_meetsIn F.slot_dict_values F.entry_dict_values rfl (PySem.evalArgs_none ⟨rfl, raw.typeIs, F.args_dict_values_1 _, _, meets_vals_raw hm, ⟨⟨es, ep, raw⟩, fin⟩⟩)
/-- walks over such a dict -/
theorem walk_keysF {w : World} {d : Addr} {od : Obj} {kvs : List Kvv} : Walk (ItkF w d od kvs) kvs.length (fun H => (∃ u, H d = some (.frz od u)) ∧ DF w H d kvs) (fun i H x H' => H' = H ∧ ∃ k v, kvs[i]? = some (k, x, v)) :=
  ⟨fun i H hi h => ⟨h.1, h.2, hi⟩, fun H h => ⟨h.1, h.2, Nat.le_refl _⟩, fun i H x H' hi h y => y⟩
theorem walk_valsF {w : World} {d : Addr} {od : Obj} {kvs : List Kvv} : Walk (ItvF w d od kvs) kvs.length (fun H => (∃ u, H d = some (.frz od u)) ∧ DF w H d kvs) (fun i H x H' => H' = H ∧ ∃ k v, kvs[i]? = some (k, v, x)) :=
  ⟨fun i H hi h => ⟨h.1, h.2, hi⟩, fun H h => ⟨h.1, h.2, Nat.le_refl _⟩, fun i H x H' hi h y => y⟩
/-- list(d): the keys as they stand -/
theorem call_listF (hc : X.calm = true) : CallR X (.type "list") (fun xs H Q => ∃ d kvs, xs = [V.ref d] ∧ DF X.w H d kvs ∧ ∀ p, H p = none → Q (.ref p) (upd H p (.lst (kvs.map fun x => x.2.1)))) := by
  intro pins s σ H xs us Q I r h
  obtain ⟨d, kvs, rfl, hd, q⟩ := h
  obtain ⟨u, rfl, rx⟩ := r.one
  cases rx
  obtain ⟨od, u2, es, ep, hf, ho, hx, hdt, hm, hE⟩ := hd.raw I.hok
  refine PySem.W.kdl_call (kdl_raw hm hx hdt) (I.ok.hd hc) ho (by have := hE.lt; rw [hE.len] at this; exact this) fun h' tk acc' c' kp e it => ?_
  have rv : Vals (kvs.map fun x => x.2.1) acc'.toList := by
    have hl : kvs.length = acc'.toList.length := by rw [Array.length_toList (xs := acc'), it.1]; exact hE.len
    have key : ∀ (j : Nat) (x : Kvv) (v : Value), kvs[j]? = some x → acc'.toList[j]? = some v → RelV x.2.1 v := fun j x v hj hv => by
      obtain ⟨en, hen, hev⟩ := hE.get hj
      obtain ⟨en2, g1, g2⟩ := it.2 j v (by rw [← hv, Array.getElem?_toList])
      rw [hen] at g1
      cases g1
      rw [g2]; exact hev.2.1
    clear it e hE
    revert hl key
    generalize acc'.toList = l
    clear q hd hf
    induction kvs generalizing l with
    | nil => intro hl _; cases l with | nil => exact .nil | cons _ _ => simp at hl
    | cons x r ih =>
      intro hl key
      cases l with
      | nil => simp at hl
      | cons v l => exact .cons (key 0 x v rfl rfl) (ih l (by simpa using hl) fun j y v hj hv => key (j + 1) y v (by simpa using hj) (by simpa using hv))
  refine ⟨.ref s.heap.objs.size, _, I.laid (t' := tk) (o := .lst (kvs.map fun x => x.2.1)) kp (Nat.le_refl _) ?_, rfl, q _ (I.hok.fresh (Nat.le_refl _))⟩
  exact ⟨by rw [List.length_map]; exact hE.lt, acc'.toList, c', rv, by rw [Array.toArray_toList]; exact e⟩
end
end My

set_option linter.all false
namespace My
open PySem PySem.Spec PyProof.Rows L2
/-! ### data with dicts of any kind, all standing still -/
mutual
inductive Dx (w : World) (G : Hp) : V → PyData → Prop
  | non : Dx w G .non .none
  | bl (b : Bool) : Dx w G (.bl b) (.bool b)
  | int (i : Int) : Dx w G (.int i) (.int i)
  | str (x : Str) : Dx w G (.str x) (.str x)
  | lst {a : Addr} {xs : List V} {ds : List PyData} : G a = some (.lst xs) → DxAll w G xs ds → Dx w G (.ref a) (.list ds)
  | tup {a : Addr} {xs : List V} {ds : List PyData} : G a = some (.tup xs) → DxAll w G xs ds → Dx w G (.ref a) (.tuple ds)
  | dct {a : Addr} {kvs : List Kvv} {ds : List (PyData × PyData)} : DF w G a kvs → DxAll w G (kvs.map fun x => x.2.1) (ds.map (·.1)) → DxAll w G (kvs.map fun x => x.2.2) (ds.map (·.2)) → Dx w G (.ref a) (.dict ds)
inductive DxAll (w : World) (G : Hp) : List V → List PyData → Prop
  | nil : DxAll w G [] []
  | cons {v : V} {vs : List V} {d : PyData} {ds : List PyData} : Dx w G v d → DxAll w G vs ds → DxAll w G (v :: vs) (d :: ds)
end
section
variable {w : World} {K : PySem.W.Frag} {G G' H : Hp}
mutual
theorem Dx.mono (e : Same G G') : ∀ {v : V} {d : PyData}, Dx w G v d → Dx w G' v d
  | _, _, .non => .non
  | _, _, .bl b => .bl b
  | _, _, .int i => .int i
  | _, _, .str x => .str x
  | _, _, .lst h t => .lst (e _ _ h) (DxAll.mono e t)
  | _, _, .tup h t => .tup (e _ _ h) (DxAll.mono e t)
  | _, _, .dct h t u => .dct (h.mono e) (DxAll.mono e t) (DxAll.mono e u)
theorem DxAll.mono (e : Same G G') : ∀ {vs : List V} {ds : List PyData}, DxAll w G vs ds → DxAll w G' vs ds
  | _, _, .nil => .nil
  | _, _, .cons h t => .cons (Dx.mono e h) (DxAll.mono e t)
end
mutual
/-- data without dicts, as the layer knew it -/
theorem Dx.of : ∀ {d : PyData} {v : V}, Dq K G v d → d.hasDict = false → Dx w G v d
  | .none, _, h, _ => by cases h; exact .non
  | .bool b, _, h, _ => by cases h; exact .bl b
  | .int i, _, h, _ => by cases h; exact .int i
  | .str x, _, h, _ => by cases h; exact .str x
  | .list ds, _, h, n => by
    cases h with
    | lst h t => exact .lst h (DxAll.of t (by simpa [PyData.hasDict] using n))
  | .tuple ds, _, h, n => by
    cases h with
    | tup h t => exact .tup h (DxAll.of t (by simpa [PyData.hasDict] using n))
  | .dict ds, _, h, n => by simp [PyData.hasDict] at n
theorem DxAll.of : ∀ {ds : List PyData} {vs : List V}, DqAll K G vs ds → PyData.hasDictAll ds = false → DxAll w G vs ds
  | [], _, h, _ => by cases h; exact .nil
  | d :: ds, _, h, n => by
    cases h with
    | cons a b =>
      simp only [PyData.hasDictAll, Bool.or_eq_false_iff] at n
      exact .cons (Dx.of a n.1) (DxAll.of b n.2)
end
theorem DxAll.append : ∀ {vs us : List V} {ds es : List PyData}, DxAll w G vs ds → DxAll w G us es → DxAll w G (vs ++ us) (ds ++ es)
  | _, _, _, _, .nil, t => t
  | _, _, _, _, .cons h r, t => .cons h (DxAll.append r t)
theorem DxAll.len : ∀ {vs : List V} {ds : List PyData}, DxAll w G vs ds → vs.length = ds.length
  | _, _, .nil => rfl
  | _, _, .cons _ t => by rw [List.length_cons, List.length_cons, DxAll.len t]
theorem DxAll.get : ∀ {vs : List V} {ds : List PyData} {i : Nat} {v : V}, DxAll w G vs ds → vs[i]? = some v → ∃ d, ds[i]? = some d ∧ Dx w G v d
  | _, _, _, _, .nil, e => by simp at e
  | _, _, 0, _, .cons h _, e => by simp at e; subst e; exact ⟨_, rfl, h⟩
  | _, _, i + 1, v, .cons _ t, e => by
    obtain ⟨d, h1, h2⟩ := DxAll.get (i := i) (v := v) t (by simpa using e)
    exact ⟨d, by simpa using h1, h2⟩
theorem DxAll.take : ∀ {vs : List V} {ds : List PyData} (n : Nat), DxAll w G vs ds → DxAll w G (vs.take n) (ds.take n)
  | _, _, 0, _ => .nil
  | _, _, _ + 1, .nil => .nil
  | _, _, n + 1, .cons h t => .cons h (DxAll.take n t)
theorem DxAll.drop : ∀ {vs : List V} {ds : List PyData} (n : Nat), DxAll w G vs ds → DxAll w G (vs.drop n) (ds.drop n)
  | _, _, 0, h => h
  | _, _, _ + 1, .nil => .nil
  | _, _, n + 1, .cons _ t => DxAll.drop n t
theorem DxAll.rev : ∀ {vs : List V} {ds : List PyData}, DxAll w G vs ds → DxAll w G vs.reverse ds.reverse
  | _, _, .nil => .nil
  | _, _, .cons h t => by
    rw [List.reverse_cons, List.reverse_cons]
    exact DxAll.append (DxAll.rev t) (.cons h .nil)
end
section
variable {X : Cx} {pins : List (Addr × Obj)} {σ : L2.St} {H : Hp} {s : Shared}
theorem ents_vals {w : World} {H : Hp} : ∀ {kvs : List Kvv} {es : List DictEntry}, Paired (EnV w H) kvs es → Vals (kvs.map fun x => x.2.1) (es.map (·.key)) ∧ Vals (kvs.map fun x => x.2.2) (es.map (·.val))
  | _, _, .nil => ⟨.nil, .nil⟩
  | _, _, .cons h t => ⟨.cons h.2.1 (ents_vals t).1, .cons h.2.2.2.2 (ents_vals t).2⟩
mutual
theorem Dx.reads (I : Inv X pins σ H s) : ∀ (d : PyData) (v : V) (u : Value), Dx X.w H v d → RelV v u → ∃ as, Reads s.heap u d as
  | .none, _, _, h, r => by cases h; cases r; exact ⟨_, Reads.none⟩
  | .bool b, _, _, h, r => by cases h; cases r; exact ⟨_, Reads.bool b⟩
  | .int i, _, _, h, r => by cases h; obtain ⟨t, rfl⟩ := r; exact ⟨_, Reads.int i t⟩
  | .str x, _, _, h, r => by cases h; obtain ⟨t, rfl⟩ := r; exact ⟨_, Reads.str x t⟩
  | .list ds, _, _, h, r => by
    cases h with
    | lst hs ha =>
      cases r
      obtain ⟨_, its, n, rv, ho⟩ := I.hok _ _ hs
      obtain ⟨as, hr⟩ := DxAll.reads I ds _ its ha rv
      exact ⟨_, Reads.list ho rfl rfl (by simpa using hr)⟩
  | .tuple ds, _, _, h, r => by
    cases h with
    | tup hs ha =>
      cases r
      obtain ⟨_, its, rv, o, ho, hc, n, hd⟩ := I.hok _ _ hs
      obtain ⟨as, hr⟩ := DxAll.reads I ds _ its ha rv
      exact ⟨_, Reads.tuple ho hc hd (by simpa using hr)⟩
  | .dict ds, _, _, h, r => by
    cases h with
    | dct hs hk hv =>
      cases r
      obtain ⟨od, u, es, ep, _, ho, hx, hdt, hm, hE⟩ := hs.raw I.hok
      obtain ⟨r1, r2⟩ := ents_vals hE.prd
      obtain ⟨as, q1⟩ := DxAll.readsK I ds _ _ hk r1
      obtain ⟨bs, q2⟩ := DxAll.readsV I ds _ _ hv r2
      exact ⟨_, Reads.dict ho hx.1 hdt q1 q2⟩
theorem DxAll.reads (I : Inv X pins σ H s) : ∀ (ds : List PyData) (vs : List V) (us : List Value), DxAll X.w H vs ds → Vals vs us → ∃ as, ReadsAll s.heap us ds as
  | [], _, _, h, r => by cases h; cases r; exact ⟨_, ReadsAll.nil⟩
  | d :: ds, _, _, h, r => by
    cases h with
    | cons h1 h2 =>
      cases r with
      | cons r1 r2 =>
        obtain ⟨as, q1⟩ := Dx.reads I d _ _ h1 r1
        obtain ⟨bs, q2⟩ := DxAll.reads I ds _ _ h2 r2
        exact ⟨_, ReadsAll.cons q1 q2⟩
theorem DxAll.readsK (I : Inv X pins σ H s) : ∀ (ds : List (PyData × PyData)) (vs : List V) (us : List Value), DxAll X.w H vs (ds.map (·.1)) → Vals vs us → ∃ as, ReadsAll s.heap us (ds.map (·.1)) as
  | [], _, _, h, r => by cases h; cases r; exact ⟨_, ReadsAll.nil⟩
  | (d, d') :: ds, _, _, h, r => by
    cases h with
    | cons h1 h2 =>
      cases r with
      | cons r1 r2 =>
        obtain ⟨as, q1⟩ := Dx.reads I d _ _ h1 r1
        obtain ⟨bs, q2⟩ := DxAll.readsK I ds _ _ h2 r2
        exact ⟨_, ReadsAll.cons q1 q2⟩
theorem DxAll.readsV (I : Inv X pins σ H s) : ∀ (ds : List (PyData × PyData)) (vs : List V) (us : List Value), DxAll X.w H vs (ds.map (·.2)) → Vals vs us → ∃ as, ReadsAll s.heap us (ds.map (·.2)) as
  | [], _, _, h, r => by cases h; cases r; exact ⟨_, ReadsAll.nil⟩
  | (d, d') :: ds, _, _, h, r => by
    cases h with
    | cons h1 h2 =>
      cases r with
      | cons r1 r2 =>
        obtain ⟨as, q1⟩ := Dx.reads I d' _ _ h1 r1
        obtain ⟨bs, q2⟩ := DxAll.readsV I ds _ _ h2 r2
        exact ⟨_, ReadsAll.cons q1 q2⟩
end
/-- what repr asks of a thing -/
def Shk (P : Program) (w : World) (h : Heap) (d : PyData) (u : Value) : Prop := ∃ bs, ReadAtMost h d.depth bs ∧ ReprK P w bs h d.depth u d.shown
def ShkAll (P : Program) (w : World) (h : Heap) (ds : List PyData) (us : List Value) : Prop := ∃ bs, ReadAtMost h (PyData.depthAll ds) bs ∧ ReprAllK P w bs h (PyData.depthAll ds) us (PyData.shownAll ds)
theorem shk_cons {P : Program} {w : World} {h : Heap} {d : PyData} {ds : List PyData} {u : Value} {us : List Value} (a : Shk P w h d u) (b : ShkAll P w h ds us) : ShkAll P w h (d :: ds) (u :: us) := by
  obtain ⟨b1, g1, k1⟩ := a
  obtain ⟨b2, g2, k2⟩ := b
  have le1 : d.depth ≤ PyData.depthAll (d :: ds) := by simp only [PyData.depthAll]; exact Nat.le_max_left _ _
  have le2 : PyData.depthAll ds ≤ PyData.depthAll (d :: ds) := by simp only [PyData.depthAll]; exact Nat.le_max_right _ _
  refine ⟨b1 ++ b2, fun c hc => ?_, ?_⟩
  · rcases List.mem_append.mp hc with hc | hc
    · obtain ⟨d', as', r', l⟩ := g1 c hc; exact ⟨d', as', r', Nat.le_trans l le1⟩
    · obtain ⟨d', as', r', l⟩ := g2 c hc; exact ⟨d', as', r', Nat.le_trans l le2⟩
  · rw [show PyData.shownAll (d :: ds) = d.shown :: PyData.shownAll ds by simp only [PyData.shownAll]]
    exact .cons ((k1.more fun c hc => List.mem_append_left b2 hc).level_le le1) (k2.more_le (fun c hc => List.mem_append_right b1 hc) le2)
mutual
theorem Dx.shk (I : Inv X pins σ H s) : ∀ (d : PyData) (v : V) (u : Value), Dx X.w H v d → RelV v u → d.showable = true → d.shown.length ≤ sizeLine → Shk X.prog X.w s.heap d u
  | .none, _, _, h, r, _, _ => by cases h; cases r; exact ⟨[], nofun, by simp only [PyData.shown]; exact .of_is ReprIs.none _ _ _⟩
  | .bool b, _, _, h, r, _, _ => by cases h; cases r; exact ⟨[], nofun, by simp only [PyData.shown]; exact .of_is (ReprIs.bool b) _ _ _⟩
  | .int i, _, _, h, r, hs, _ => by cases h; obtain ⟨t, rfl⟩ := r; exact ⟨[], nofun, by simp only [PyData.shown]; exact .of_is (ReprIs.int t (by simpa [PyData.showable] using hs)) _ _ _⟩
  | .str x, _, _, h, r, _, hz => by cases h; obtain ⟨t, rfl⟩ := r; exact ⟨[], nofun, by simp only [PyData.shown]; exact .of_is (ReprIs.str x t (by simpa only [PyData.shown] using hz)) _ _ _⟩
  | .list ds, v, u, h, r, hs, hz => by
    obtain ⟨as0, rd⟩ := Dx.reads I _ _ _ h r
    cases h with
    | lst hg ha =>
      cases r
      obtain ⟨_, its, n, rv, ho⟩ := I.hok _ _ hg
      simp only [PyData.shown] at hz
      obtain ⟨bs, hb, hk⟩ := DxAll.shk I ds _ its ha rv (by simpa [PyData.showable] using hs) fun t ht => Nat.le_trans (listText_mem_le ht) hz
      have hna := not_mem_of_deeper rd (by simp only [PyData.depth]; omega) hb
      refine ⟨_ :: bs, ReadAtMost.cons rd (Nat.le_refl _) (fun c hc => let ⟨d', as', r', l⟩ := hb c hc; ⟨d', as', r', by simp only [PyData.depth]; omega⟩), ?_⟩
      simp only [PyData.depth, PyData.shown]
      cases its with
      | nil =>
        cases rv; cases ha
        simp only [PyData.shownAll, listText_nil]
        exact ReprK.listEmpty ho rfl rfl
      | cons x l => exact ReprK.list ho rfl rfl hna (by simpa using hk.length_eq) (fun i y e => hk.item i y (by simpa using e))
  | .tuple ds, v, u, h, r, hs, hz => by
    obtain ⟨as0, rd⟩ := Dx.reads I _ _ _ h r
    cases h with
    | tup hg ha =>
      cases r
      obtain ⟨_, its, rv, o, ho, hc, n, hd⟩ := I.hok _ _ hg
      simp only [PyData.shown] at hz
      obtain ⟨bs, hb, hk⟩ := DxAll.shk I ds _ its ha rv (by simpa [PyData.showable] using hs) fun t ht => Nat.le_trans (tupleText_mem_le ht) hz
      have hna := not_mem_of_deeper rd (by simp only [PyData.depth]; omega) hb
      refine ⟨_ :: bs, ReadAtMost.cons rd (Nat.le_refl _) (fun c hc => let ⟨d', as', r', l⟩ := hb c hc; ⟨d', as', r', by simp only [PyData.depth]; omega⟩), ?_⟩
      simp only [PyData.depth, PyData.shown]
      exact ReprK.tuple ho hc hd hna (by simpa using hk)
  | .dict ds, v, u, h, r, hs, hz => by
    obtain ⟨as0, rd⟩ := Dx.reads I _ _ _ h r
    cases h with
    | dct hg hk hv =>
      cases r
      obtain ⟨od, u, es, ep, _, ho, hx, hdt, hm, hE⟩ := hg.raw I.hok
      obtain ⟨r1, r2⟩ := ents_vals hE.prd
      simp only [PyData.shown] at hz
      obtain ⟨s1, s2⟩ := PyData.showableKv_split ds (by simpa [PyData.showable] using hs)
      obtain ⟨b1, g1, k1⟩ := DxAll.shkK I ds _ _ hk r1 s1 fun t ht => let ⟨p, hp, hl⟩ := PyData.shownKv_key_le ds t ht; Nat.le_trans hl (Nat.le_trans (dictText_mem_le hp) hz)
      obtain ⟨b2, g2, k2⟩ := DxAll.shkV I ds _ _ hv r2 s2 fun t ht => let ⟨p, hp, hl⟩ := PyData.shownKv_val_le ds t ht; Nat.le_trans hl (Nat.le_trans (dictText_mem_le hp) hz)
      have hb : ReadAtMost s.heap (PyData.depthKv ds) (b1 ++ b2) := (g1.mono (PyData.depthAll_keys_le ds)).append (g2.mono (PyData.depthAll_vals_le ds))
      have hna := not_mem_of_deeper rd (by simp only [PyData.depth]; omega) hb
      refine ⟨_ :: (b1 ++ b2), ReadAtMost.cons rd (Nat.le_refl _) (fun c hc => let ⟨d', as', r', l⟩ := hb c hc; ⟨d', as', r', by simp only [PyData.depth]; omega⟩), ?_⟩
      simp only [PyData.depth, PyData.shown, PyData.shownKv_eq]
      exact ReprK.dict ho hx.1 hdt hm hna (ReprEntriesK.of_two es.toList _ _ (k1.more_le (fun c hc => List.mem_append_left b2 hc) (PyData.depthAll_keys_le ds)) (k2.more_le (fun c hc => List.mem_append_right b1 hc) (PyData.depthAll_vals_le ds)))
theorem DxAll.shk (I : Inv X pins σ H s) : ∀ (ds : List PyData) (vs : List V) (us : List Value), DxAll X.w H vs ds → Vals vs us → PyData.showableAll ds = true → (∀ t ∈ PyData.shownAll ds, t.length ≤ sizeLine) → ShkAll X.prog X.w s.heap ds us
  | [], _, _, h, r, _, _ => by cases h; cases r; exact ⟨[], nofun, by simp only [PyData.shownAll]; exact .nil⟩
  | d :: ds, _, _, h, r, hs, hz => by
    cases h with
    | cons h1 h2 =>
      cases r with
      | cons r1 r2 =>
        have e : d.showable = true ∧ PyData.showableAll ds = true := by simpa [PyData.showableAll] using hs
        simp only [PyData.shownAll, List.mem_cons] at hz
        exact shk_cons (Dx.shk I d _ _ h1 r1 e.1 (hz _ (.inl rfl))) (DxAll.shk I ds _ _ h2 r2 e.2 fun t ht => hz t (.inr ht))
theorem DxAll.shkK (I : Inv X pins σ H s) : ∀ (ds : List (PyData × PyData)) (vs : List V) (us : List Value), DxAll X.w H vs (ds.map (·.1)) → Vals vs us → PyData.showableAll (ds.map (·.1)) = true → (∀ t ∈ PyData.shownAll (ds.map (·.1)), t.length ≤ sizeLine) → ShkAll X.prog X.w s.heap (ds.map (·.1)) us
  | [], _, _, h, r, _, _ => by cases h; cases r; exact ⟨[], nofun, by simp only [List.map_nil, PyData.shownAll]; exact .nil⟩
  | (d, d') :: ds, _, _, h, r, hs, hz => by
    cases h with
    | cons h1 h2 =>
      cases r with
      | cons r1 r2 =>
        simp only [List.map_cons, PyData.showableAll, Bool.and_eq_true] at hs
        simp only [List.map_cons, PyData.shownAll, List.mem_cons] at hz
        exact shk_cons (Dx.shk I d _ _ h1 r1 hs.1 (hz _ (.inl rfl))) (DxAll.shkK I ds _ _ h2 r2 hs.2 fun t ht => hz t (.inr ht))
theorem DxAll.shkV (I : Inv X pins σ H s) : ∀ (ds : List (PyData × PyData)) (vs : List V) (us : List Value), DxAll X.w H vs (ds.map (·.2)) → Vals vs us → PyData.showableAll (ds.map (·.2)) = true → (∀ t ∈ PyData.shownAll (ds.map (·.2)), t.length ≤ sizeLine) → ShkAll X.prog X.w s.heap (ds.map (·.2)) us
  | [], _, _, h, r, _, _ => by cases h; cases r; exact ⟨[], nofun, by simp only [List.map_nil, PyData.shownAll]; exact .nil⟩
  | (d, d') :: ds, _, _, h, r, hs, hz => by
    cases h with
    | cons h1 h2 =>
      cases r with
      | cons r1 r2 =>
        simp only [List.map_cons, PyData.showableAll, Bool.and_eq_true] at hs
        simp only [List.map_cons, PyData.shownAll, List.mem_cons] at hz
        exact shk_cons (Dx.shk I d' _ _ h1 r1 hs.1 (hz _ (.inl rfl))) (DxAll.shkV I ds _ _ h2 r2 hs.2 fun t ht => hz t (.inr ht))
end
def rReprX (w : World) : List V → Hp → VK → Prop := fun xs H Q => ∃ (v : V) (d : PyData), xs = [v] ∧ Dx w H v d ∧ d.showable = true ∧ d.depth ≤ 100 ∧ d.shown.length ≤ sizeLine ∧ Q (.str d.shown) H
theorem cr_reprX {X : Cx} (hg : X.A.guards = some []) (hu : X.A.units + 111 < cLine) : CallR X (.builtin "repr") (rReprX X.w) := by
  intro pins s σ H xs us Q I r h
  obtain ⟨v, d, rfl, h, hs, hd, hz, q⟩ := h
  obtain ⟨u, rfl, r0⟩ := vals1 r
  have end' : ∀ (h' : Heap) (t : Tok) (tk : Nat), (∀ b o, s.heap.get? b = some o → h'.get? b = some o) → EP X pins σ Q (.str d.shown t) { s with heap := h', toks := tk } := fun h' t tk hk => ⟨.str _, H, I.kept hk, ⟨_, rfl⟩, q⟩
  obtain ⟨as0, rd⟩ := Dx.reads I _ _ _ h r0
  cases h with
  | non => cases r0; exact PySem.P.repr_of_none ⟨.str _, H, I.tok _, ⟨_, rfl⟩, q⟩
  | bl b => cases r0; exact PySem.P.repr_of_bool ⟨.str _, H, I.tok _, ⟨_, rfl⟩, q⟩
  | int i =>
    obtain ⟨t, rfl⟩ := r0
    exact PySem.P.repr_of_int (by simpa [PyData.showable] using hs) ⟨.str _, H, I.tok _, ⟨_, rfl⟩, q⟩
  | str x =>
    obtain ⟨t, rfl⟩ := r0
    exact PySem.P.repr_of_str ⟨.str _, H, I.tok _, ⟨_, rfl⟩, q⟩ hz
  | @lst a ys ds hg2 ha =>
    cases r0
    obtain ⟨_, its, n, rv, ho⟩ := I.hok _ _ hg2
    simp only [PyData.shown] at hz end'
    simp only [PyData.depth] at hd
    obtain ⟨bs, hb, hk⟩ := DxAll.shk I ds _ its ha rv (by simpa [PyData.showable] using hs) fun t ht => Nat.le_trans (listText_mem_le ht) hz
    have hna := not_mem_of_deeper rd (by simp only [PyData.depth]; omega) hb
    refine call_repr_slot (T := "list") (by omega) ⟨_, ho, rfl⟩ F.slot_list_repr.toG ?_
    cases its with
    | nil =>
      cases rv; cases ha
      simp only [PyData.shownAll, listText_nil] at end'
      exact call_list_repr_empty ⟨_, ho, rfl⟩ ho rfl ⟨_, _, rfl, end' s.heap _ _ fun _ _ e => e⟩
    | cons x l =>
      exact call_list_reprK (d := PyData.depthAll ds) ho rfl rfl hna (by simpa using hk.length_eq) (fun i y e => hk.item i y (by simpa using e)) hg (fun b _ => Clear.nil b) (by show X.A.units + 1 + (_ + 1) < cLine; omega) (fun _ _ e => e) (fun h' t tk e => ⟨_, _, rfl, end' h' t tk e⟩) hz
  | @tup a ys ds hg2 ha =>
    cases r0
    obtain ⟨_, its, rv, o, ho, hc, n, hd2⟩ := I.hok _ _ hg2
    simp only [PyData.shown] at hz end'
    simp only [PyData.depth] at hd
    obtain ⟨bs, hb, hk⟩ := DxAll.shk I ds _ its ha rv (by simpa [PyData.showable] using hs) fun t ht => Nat.le_trans (tupleText_mem_le ht) hz
    have hna := not_mem_of_deeper rd (by simp only [PyData.depth]; omega) hb
    exact call_repr_slot (T := "tuple") (by omega) ⟨_, ho, hc⟩ F.slot_tuple_repr (call_tuple_reprK (d := PyData.depthAll ds) ho hc hd2 hna (by simpa using hk) hg (fun b _ => Clear.nil b) (by show X.A.units + 1 + (_ + 1) < cLine; omega) (fun _ _ e => e) (fun h' t tk e => ⟨_, _, rfl, end' h' t tk e⟩) hz)
  | @dct a kvs ds hg2 hk hv =>
    cases r0
    obtain ⟨od, u, es, ep, _, ho, hx, hdt, hm, hE⟩ := hg2.raw I.hok
    obtain ⟨r1, r2⟩ := ents_vals hE.prd
    simp only [PyData.shown] at hz end'
    simp only [PyData.depth] at hd
    obtain ⟨s1, s2⟩ := PyData.showableKv_split ds (by simpa [PyData.showable] using hs)
    obtain ⟨b1, g1, k1⟩ := DxAll.shkK I ds _ _ hk r1 s1 fun t ht => let ⟨p, hp, hl⟩ := PyData.shownKv_key_le ds t ht; Nat.le_trans hl (Nat.le_trans (dictText_mem_le hp) hz)
    obtain ⟨b2, g2, k2⟩ := DxAll.shkV I ds _ _ hv r2 s2 fun t ht => let ⟨p, hp, hl⟩ := PyData.shownKv_val_le ds t ht; Nat.le_trans hl (Nat.le_trans (dictText_mem_le hp) hz)
    have hb : ReadAtMost s.heap (PyData.depthKv ds) (b1 ++ b2) := (g1.mono (PyData.depthAll_keys_le ds)).append (g2.mono (PyData.depthAll_vals_le ds))
    have hna := not_mem_of_deeper rd (by simp only [PyData.depth]; omega) hb
    rw [PyData.shownKv_eq] at hz
    simp only [PyData.shownKv_eq] at end'
    exact call_repr_slot (T := "dict") (by omega) ⟨_, ho, hx.1⟩ F.slot_dict_repr (call_dict_reprK (d := PyData.depthKv ds) ho hx.1 hdt hm hna (ReprEntriesK.of_two es.toList _ _ (k1.more_le (fun c hc => List.mem_append_left b2 hc) (PyData.depthAll_keys_le ds)) (k2.more_le (fun c hc => List.mem_append_right b1 hc) (PyData.depthAll_vals_le ds))) hg (fun b _ => Clear.nil b) (by show X.A.units + 1 + (_ + 1) < cLine; omega) (fun _ _ e => e) (fun h' t tk e => ⟨_, _, rfl, end' h' t tk e⟩) hz)
/-- isinstance of such a thing -/
theorem Dx.tyx {w : World} {K : PySem.W.Frag} {H : Hp} {v : V} {d : PyData} (h : Dx w H v d) (n : ∀ ds, d ≠ .dict ds) : TyX K H v (.type (tyN d)) := by
  cases h with
  | non => exact .base .non
  | bl b => exact .base (.bl b)
  | int i => exact .base (.int i)
  | str x => exact .base (.str x)
  | lst h _ => exact .base (.lst h)
  | tup h _ => exact .base (.tup h)
  | dct h _ _ => exact absurd rfl (n _)
def rIsiX (w : World) : List V → Hp → VK → Prop := fun xs H Q => ∃ (v : V) (d : PyData) (T : String) (b : Bool), xs = [v, .ty T] ∧ Dx w H v d ∧ kitB (tyN d) T = some b ∧ Q (.bl b) H
theorem call_isiX {X : Cx} : CallR X (.builtin "isinstance") (rIsiX X.w) := by
  intro pins s σ H xs us Q I r h
  obtain ⟨v, d, T, b, rfl, h, hk, q⟩ := h
  by_cases c : ∃ ds, d = .dict ds
  · obtain ⟨ds, rfl⟩ := c
    cases h with
    | dct hg _ _ => exact call_isiF pins s σ H _ us Q I r ⟨_, _, T, b, rfl, hg, hk, q⟩
  · exact call_isi pins s σ H _ us Q I r ⟨v, .ty T, .type (tyN d), .type T, b, rfl, .ty T, h.tyx fun ds e => c ⟨ds, e⟩, kit_ty hk, q⟩
end
end My

set_option linter.all false
namespace My
open PySem PySem.Spec PyProof.Rows L2
/-! ### comprehensions by what each turn keeps -/
theorem lc_gen {J : It} {n : Nat} {G : Hp → Prop} {Y : Nat → Hp → V → Hp → Prop} (w : Walk J n G Y) {g : TG} {tt : TT} {te : TE} {vs : List Nat} {σ : L2.St} {H1 : Hp} {D : Addr} {Qd : Hp → Prop} (f : Nat → Bool) (v : Nat → V) (nD : H1 D = none) (hn : n ≤ sizeLine) (hG : ∀ H, Same H1 H → G H)
    (hs : ∀ i x H H', i < n → Same H1 H → Y i H x H' → ∀ (Q : VK) (R : Hp → Prop), (f i = true → ∀ H4, Same H H4 → Q (v i) H4) → (f i = false → ∀ H4, Same H H4 → R H4) → g x (wipe σ vs) H' fun σ2 H2 => wipe σ2 vs = wipe σ vs ∧ tt σ2 H2 fun b H3 => if b = true then te σ2 H3 Q else R H3)
    (hd : ∀ H, Same H1 H → H D = some (.lst (((List.range n).filter f).map v)) → Qd H) :
    ∃ W : Nat → Nat → Hp → Prop, (∃ m, W 0 m (upd H1 D (.lst []))) ∧ ∀ i m H, W i m H →
      (J.stop i H ∧ Qd H) ∨ (J.go i H ∧ ∃ Nx : Hp → Prop, (∀ H', Nx H' → ∃ m', m' < m ∧ W (i + 1) m' H') ∧ ∀ x H', J.yld i H x H' → g x (wipe σ vs) H' fun σ2 H2 => wipe σ2 vs = wipe σ vs ∧ tt σ2 H2 fun b H3 =>
        if b = true then te σ2 H3 fun y H4 => ∃ acc, H4 D = some (.lst acc) ∧ acc.length < sizeLine ∧ Nx (upd H4 D (.lst (acc ++ [y]))) else Nx H3) := by
  refine lc_it w (fun i H => Same H1 H ∧ H D = some (.lst (((List.range i).filter f).map v))) ⟨Same.upd nD, upd_same⟩ (fun i H _ z => hG H z.1) (fun i x H H' hi p y => ?_) fun H z => hd H z.1 z.2
  refine hs i x H H' hi p.1 y _ _ (fun hf H4 s4 => ?_) fun hf H4 s4 => ?_
  · refine ⟨_, s4 _ _ p.2, ?_, ?_, ?_⟩
    · have h1 := List.length_filter_le f (List.range i)
      rw [List.length_range] at h1
      rw [List.length_map]; omega
    · intro b o hb
      rw [upd_ne (ne_of_none hb nD)]
      exact s4 _ _ (p.1 b o hb)
    · rw [upd_same, List.range_succ, List.filter_append, List.map_append]
      simp [hf]
  · refine ⟨p.1.trans s4, ?_⟩
    rw [s4 _ _ p.2, List.range_succ, List.filter_append, List.map_append]
    simp [hf]
theorem walk_two {K : PySem.W.Frag} {a b : Addr} {us ys : List V} {n : Nat} (hn : n = min us.length ys.length) : Walk (RZ.ItzT K a b) n (fun H => SqT K H a us ∧ SqT K H b ys) (YPair (fun i => us[i]?) (fun i => ys[i]?)) := by
  subst hn
  refine ⟨fun i H lt q => ⟨us, ys, us[i]'(by omega), ys[i]'(by omega), q.1, q.2, List.getElem?_eq_getElem (by omega), List.getElem?_eq_getElem (by omega)⟩, fun H q => ⟨us, ys, q.1, q.2, by omega⟩, fun i H v H' lt q y => ?_⟩
  obtain ⟨T, x, z, h1, h2, h3, h4, h5⟩ := y
  exact ⟨T, x, z, h1, h2, h3, h4 us q.1, h5 ys q.2⟩
theorem range_all (n : Nat) (f : Nat → Bool) : (List.range n).filter (fun _ => true) = List.range n := by simp
/-- all([..]) of truths -/
theorem bools_map (n : Nat) (f : Nat → Bool) : ((List.range n).map fun i => V.bl (f i)) = ((List.range n).map f).map V.bl := by rw [List.map_map]; rfl
theorem all_range {α : Type} (l : List α) (f : Nat → Bool) (p : α → Bool) (h : ∀ i a, l[i]? = some a → f i = p a) : ((List.range l.length).map f).all id = l.all p := by
  induction l generalizing f with
  | nil => rfl
  | cons a r ih =>
    rw [List.length_cons, List.range_succ_eq_map, List.map_cons, List.all_cons, List.all_cons, List.map_map, ih (f ∘ Nat.succ) fun i b e => h (i + 1) b (by simpa using e), h 0 a rfl]
    rfl
theorem filt_nil (n : Nat) (f : Nat → Bool) (v : Nat → V) : (((List.range n).filter f).map v = []) ↔ ∀ i, i < n → f i = false := by
  rw [List.map_eq_nil_iff, List.filter_eq_nil_iff]
  constructor
  · intro h i hi
    have := h i (List.mem_range.mpr hi)
    simpa using this
  · intro h i hi
    have := h i (List.mem_range.mp hi)
    simp [this]
/-! ### pairs (digit, name) in their order -/
def ltP (a b : Int × Str) : Bool := if a.1 = b.1 then decide (a.2.cps.toList < b.2.cps.toList) else decide (a.1 < b.1)
section
variable {X : Cx}
theorem pair_at {pins : List (Addr × Obj)} {σ : L2.St} {H : Hp} {s : Shared} (I : Inv X pins σ H s) {a : Addr} {q : Int × Str} (h : H a = some (.tup [.int q.1, .str q.2])) : ∃ t u, s.heap.IsTuple a #[.int q.1 t, .str q.2 u] := by
  obtain ⟨_, its, rv, o, ho, hc, n, hd⟩ := I.hok _ _ h
  obtain ⟨x1, x2, rfl, r1, r2⟩ := vals2 rv
  obtain ⟨t, rfl⟩ := r1
  obtain ⟨u, rfl⟩ := r2
  exact ⟨t, u, o, ho, hc, n, hd⟩
def rCmpP (f : Int × Str → Int × Str → Bool) : R2 := fun x y H Q => ∃ (a b : Addr) (p q : Int × Str), x = .ref a ∧ y = .ref b ∧ H a = some (.tup [.int p.1, .str p.2]) ∧ H b = some (.tup [.int q.1, .str q.2]) ∧ Q (.bl (f p q)) H
theorem eq_at {s : Shared} {A : Around} (p q : Int × Str) (t u t' u' : Tok) : ∀ j (h1 : j < (#[Value.int p.1 t, Value.str p.2 u] : Array Value).size) (h2 : j < (#[Value.int q.1 t', Value.str q.2 u'] : Array Value).size),
    SeqAt.EqAt A s (#[Value.int p.1 t, Value.str p.2 u] : Array Value)[j] (#[Value.int q.1 t', Value.str q.2 u'] : Array Value)[j] (if j = 0 then decide (p.1 = q.1) else decide (p.2 = q.2)) := by
  intro j h1 h2
  have hj : j = 0 ∨ j = 1 := by simp at h1; omega
  rcases hj with rfl | rfl
  · have e : (p.1 == q.1) = decide (p.1 = q.1) := by by_cases c : p.1 = q.1 <;> simp [c]
    show SeqAt.EqAt A s (.int p.1 t) (.int q.1 t') (decide (p.1 = q.1))
    rw [← e]; exact SeqAt.EqAt.int_int _ _ _ _
  · have e : (p.2 == q.2) = decide (p.2 = q.2) := by by_cases c : p.2 = q.2 <;> simp [c]
    show SeqAt.EqAt A s (.str p.2 u) (.str q.2 u') (decide (p.2 = q.2))
    rw [← e]; exact SeqAt.EqAt.str_str _ _ _ _
theorem op_ltP (hu : X.A.units < cLine) : OpR X (compareOp .Lt) (rCmpP ltP) := by
  intro pins s σ H x y v u Q I rx ry h
  obtain ⟨a, b, p, q, rfl, rfl, ha, hb, k⟩ := h
  cases rx
  cases ry
  obtain ⟨t, u, p1⟩ := pair_at I ha
  obtain ⟨t', u', p2⟩ := pair_at I hb
  have R := Ob.RcOp.tuples_lt (A := X.A) (s := s) (r := fun j => if j = 0 then decide (p.1 < q.1) else decide (p.2.cps.toList < q.2.cps.toList)) p1 p2 hu (eq_at p q t u t' u') (fun j h1 h2 _ => by
    have hj : j = 0 ∨ j = 1 := by simp at h1; omega
    rcases hj with rfl | rfl
    · exact Ob.RcOp.lt_int _ _ _ _
    · exact fun prog w E Q h => PyProof.Rows.lt_str h)
  have e : Ob.lexAt (fun j => if j = 0 then decide (p.1 = q.1) else decide (p.2 = q.2)) (fun j => if j = 0 then decide (p.1 < q.1) else decide (p.2.cps.toList < q.2.cps.toList)) (decide ((#[Value.int p.1 t, Value.str p.2 u] : Array Value).size < (#[Value.int q.1 t', Value.str q.2 u'] : Array Value).size)) 0 (min (#[Value.int p.1 t, Value.str p.2 u] : Array Value).size (#[Value.int q.1 t', Value.str q.2 u'] : Array Value).size) = ltP p q := by
    show Ob.lexAt _ _ (decide (2 < 2)) 0 2 = _
    rw [Ob.lexAt_succ, Ob.lexAt_succ, Ob.lexAt_zero]
    unfold ltP
    by_cases c : p.1 = q.1
    · by_cases c2 : p.2 = q.2
      · simp [c, c2]
      · simp [c, c2]
    · simp [c]
  rw [e] at R
  exact R X.prog X.w X.xe (EP X pins σ Q) ⟨.bl _, H, I, rfl, k⟩
theorem op_geP (hu : X.A.units < cLine) : OpR X (compareOp .GtE) (rCmpP fun p q => !ltP p q) := by
  intro pins s σ H x y v u Q I rx ry h
  obtain ⟨a, b, p, q, rfl, rfl, ha, hb, k⟩ := h
  cases rx
  cases ry
  obtain ⟨t, u, p1⟩ := pair_at I ha
  obtain ⟨t', u', p2⟩ := pair_at I hb
  have R := Ob.RcOp.tuples_ge (A := X.A) (s := s) (r := fun j => if j = 0 then decide (q.1 ≤ p.1) else !decide (p.2.cps.toList < q.2.cps.toList)) p1 p2 hu (eq_at p q t u t' u') (fun j h1 h2 _ => by
    have hj : j = 0 ∨ j = 1 := by simp at h1; omega
    rcases hj with rfl | rfl
    · exact Ob.RcOp.ge_int _ _ _ _
    · exact fun prog w E Q h => PySem.P.ge_str h)
  have e : Ob.lexAt (fun j => if j = 0 then decide (p.1 = q.1) else decide (p.2 = q.2)) (fun j => if j = 0 then decide (q.1 ≤ p.1) else !decide (p.2.cps.toList < q.2.cps.toList)) (decide ((#[Value.int p.1 t, Value.str p.2 u] : Array Value).size ≥ (#[Value.int q.1 t', Value.str q.2 u'] : Array Value).size)) 0 (min (#[Value.int p.1 t, Value.str p.2 u] : Array Value).size (#[Value.int q.1 t', Value.str q.2 u'] : Array Value).size) = !ltP p q := by
    show Ob.lexAt _ _ (decide (2 ≥ 2)) 0 2 = _
    rw [Ob.lexAt_succ, Ob.lexAt_succ, Ob.lexAt_zero]
    unfold ltP
    by_cases c : p.1 = q.1
    · by_cases c2 : p.2 = q.2
      · simp [c, c2, List.lt_irrefl]
      · simp [c, c2]
    · simp only [c, decide_false, if_neg, if_false, Bool.false_eq_true, ite_false, if_true, ite_true]
      by_cases c3 : p.1 < q.1
      · simp [c3]
      · have : q.1 ≤ p.1 := by omega
        simp [c3, this]
  rw [e] at R
  exact R X.prog X.w X.xe (EP X pins σ Q) ⟨.bl _, H, I, rfl, k⟩
end
end My

set_option linter.all false
namespace My
open PySem PySem.Spec PyProof.Rows L2
/-! ### one of some; lowest terms -/
abbrev sOneOf : Stmt := topS 21
abbrev sLow : Stmt := topS 24
section
variable {X : Cx}
theorem ix_ls : IxR X (fun x y H Q => rIxL X.K x y H Q ∨ rIxS x y H Q) := fun value slice pins s σ H x y v u Q I r1 r2 h e => h.elim (fun h => ix_list value slice pins s σ H x y v u Q I r1 r2 h e) fun h => ix_str value slice pins s σ H x y v u Q I r1 r2 h e
theorem call_lenLS : CallR X (.builtin "len") (fun xs H Q => (∃ p ys, xs = [.ref p] ∧ SqL X.K H p ys ∧ Q (.int ys.length) H) ∨ ∃ z, xs = [.str z] ∧ z.length ≤ sizeLine ∧ Q (.int z.length) H) := fun pins s σ H xs us Q I r h => h.elim
  (fun ⟨p, ys, e, q, k⟩ => call_len_seq pins s σ H xs us Q I r ⟨p, ys, e, .inl q, k⟩) fun ⟨z, e, l, k⟩ => call_len_str pins s σ H xs us Q I r ⟨z, e, l, k⟩
end
def spOneOf : Sp := fun vs H Q _ => ∃ (p c : Addr) (t : Nat) (x : V), vs = [.ref p, x] ∧ PenD H p c t ∧ t < 2 ^ 29 ∧
  ((∃ (a : Addr) (xs : List V), x = .ref a ∧ a ≠ p ∧ H a = some (.lst xs) ∧ xs ≠ [] ∧ xs.length ≤ 1000 ∧ ∀ v H', v ∈ xs → But p H H' → PenD H' p c (t + 1) → Q v H') ∨
   ∃ z : Str, x = .str z ∧ 1 ≤ z.length ∧ z.length ≤ 1000 ∧ ∀ ch H', ch ∈ z.cps.toList → But p H H' → PenD H' p c (t + 1) → Q (.str ⟨#[ch]⟩) H')
def gL (a b : Int) : Int := ((Nat.gcd b.natAbs a.natAbs : Nat) : Int)
def spLow : Sp := fun vs H Q _ => ∃ a b : Int, vs = [.int a, .int b] ∧ 0 < b ∧ b.natAbs < 2 ^ 8000 ∧ ∀ q, H q = none → Q (.ref q) (upd H q (.tup [.int (a / gL a b), .int (b / gL a b)]))
theorem at_mem {α : Type} {xs : List α} {i : Int} (h0 : 0 ≤ i) (h1 : i < xs.length) : ∃ v ∈ xs, atI xs i = some v := by
  obtain ⟨j, rfl⟩ : ∃ j : Nat, i = (j : Int) := ⟨i.toNat, by omega⟩
  have hj : j < xs.length := by omega
  exact ⟨xs[j], List.getElem_mem hj, atI_nat (List.getElem?_eq_getElem hj)⟩
theorem gcd_step (x y : Nat) : Nat.gcd y (x % y) = Nat.gcd x y := by
  rw [Nat.gcd_comm x y, Nat.gcd_rec y x, Nat.gcd_comm]
section
variable {P : Program} {w : World} {K : PySem.W.Frag} {mg : Str → Option Value} {base : Heap}
theorem scOneOf : FnScope ["pen", "some"] ["pen", "some"] (defScope sOneOf) := ⟨rfl, rfl, rfl, by decide +kernel, rfl, by decide +kernel, by decide +kernel⟩
theorem scLow : FnScope ["top", "below", "one", "other"] ["top", "below"] (defScope sLow) := ⟨rfl, rfl, rfl, by decide +kernel, rfl, by decide +kernel, by decide +kernel⟩
theorem ok_oneof {f fT : Addr} {fd fdT : FuncData} (F : Fun K "_law_one_of" "_law_one_of" sOneOf f fd) (ml : mg "len" = none)
    (FT : Fun K "_law_draw" "_law_draw" sDraw fT fdT) (GT : FnOk P w K mg base CX0 2 fT fdT ["pen", "many"] spDraw) (bT : Binds K fdT ["pen", "many"] []) (gT : mg "_law_draw" = some (.ref fT)) :
    FnOk P w K mg base CX0 3 f fd ["pen", "some"] spOneOf := by
  refine F.ok scOneOf (fun vs H Q E h => ?_) (fun cdv A outer s H vs Q E hr h => ?_)
  · obtain ⟨p, c, t, x, rfl, _⟩ := h
    rfl
  · obtain ⟨p, c, t, x, rfl, C, tt, h⟩ := h
    have hr2 := hr
    refine ⟨_, (pss_one (ps_ret (pe_ix ix_ls (pv 1) (pe_call GT hr2 (by rfl) gT FT.kp bT .nil pass0 (pa_cons (pv 0) (pa_cons (pe_callB call_lenLS (by rfl) ml PySem.boot_len (pa_cons (pv 1) pa_nil)) pa_nil))) (fun _ _ => rfl)))), ?_⟩
    refine ⟨_, rfl, _, rfl, _, rfl, ?_⟩
    rcases h with ⟨a, xs, rfl, ap, ha, ne, l, k⟩ | ⟨z, rfl, z1, z2, k⟩
    · have l0 := List.length_pos_iff.mpr ne
      refine .inl ⟨a, xs, rfl, SqL.of ha, p, c, _, t, rfl, by omega, Nat.lt_of_le_of_lt (show ((xs.length : Int)).natAbs ≤ 1000 by omega) (by decide), C, tt, fun i H1 i0 i1 b1 C1 => ?_⟩
      obtain ⟨v, vin, hv⟩ := at_mem i0 i1
      exact .inl ⟨a, xs, _, v, rfl, rfl, SqL.of (b1 _ _ ap ha), hv, k v H1 vin b1 C1⟩
    · refine .inr ⟨z, rfl, by rw [sizeLine_eq]; omega, p, c, _, t, rfl, by omega, Nat.lt_of_le_of_lt (show ((z.length : Int)).natAbs ≤ 1000 by omega) (by decide), C, tt, fun i H1 i0 i1 b1 C1 => ?_⟩
      have zl : z.cps.toList.length = z.length := by rw [Array.length_toList]; rfl
      obtain ⟨ch, cin, hc⟩ := at_mem (xs := z.cps.toList) i0 (by rw [zl]; exact i1)
      exact .inr ⟨z, _, ch, rfl, rfl, by rw [sizeLine_eq]; omega, hc, k ch H1 cin b1 C1⟩
theorem ok_low {f : Addr} {fd : FuncData} (F : Fun K "_law_lowest" "_law_lowest" sLow f fd) (T : TxD mg) : FnOk P w K mg base CX0 1 f fd ["top", "below"] spLow := by
  refine F.ok scLow (fun vs H Q E h => ?_) (fun cdv A outer s H vs Q E hr h => ?_)
  · obtain ⟨a, b, rfl, _⟩ := h
    rfl
  · obtain ⟨a, b, rfl, b0, bb, k⟩ := h
    refine ⟨_, (pss_cons (ps_par (i := 2) (j := 3) (by rfl) scLow.nd rfl rfl (by decide) rfl rfl (pa_cons (pv 1) (pa_cons (pe_callB call_abs (by rfl) T.abs boot_abs (pa_cons (pv 0) pa_nil)) pa_nil)) (by rfl))
      (pss_cons (ps_while PassesOwn.never (pt_cmpR op_ne (pv 3) pe_int (nomark _)) (pss_one (ps_par (i := 2) (j := 3) (by rfl) scLow.nd rfl rfl (by decide) rfl rfl (pa_cons (pv 3) (pa_cons (pe_op op_mod (pv 2) (pv 3)) pa_nil)) (by rfl))))
      (pss_one (ps_ret (pe_tup (pa_cons (pe_op op_fdivW (pv 0) (pv 2)) (pa_cons (pe_op op_fdivW (pv 1) (pv 2)) pa_nil))))))), ?_⟩
    refine ⟨_, rfl, _, rfl, a, rfl, _, _, rfl, ?_⟩
    refine while_by (fun σ H2 => ∃ x y : Nat, σ = [some (.int a), some (.int b), some (.int (x : Int)), some (.int (y : Int))] ∧ H2 = H ∧ Nat.gcd x y = Nat.gcd b.natAbs a.natAbs) (fun σ _ => match σ with | [_, _, _, some (.int y)] => y.natAbs | _ => 0) ?_ ?_ ?_
    · refine ⟨b.natAbs, a.natAbs, ?_, rfl, rfl⟩
      have e1 : ((b.natAbs : Nat) : Int) = b := by omega
      have e2 : ((a.natAbs : Nat) : Int) = if a < 0 then -a else a := by split <;> omega
      rw [e1, e2]; rfl
    · rintro σ H2 ⟨x, y, rfl, rfl, hg⟩
      refine ⟨_, rfl, rfl, _, rfl, ?_⟩
      by_cases hy : y = 0
      · refine ifF (by rw [hy]; rfl) ?_
        subst hy
        have hx : x = Nat.gcd b.natAbs a.natAbs := by rw [← hg, Nat.gcd_zero_right]
        have g0 : 0 < x := by rw [hx]; exact Nat.gcd_pos_of_pos_left _ (by omega)
        have gb : x ≤ b.natAbs := by rw [hx]; exact Nat.le_of_dvd (by omega) (Nat.gcd_dvd_left _ _)
        have wd : ∀ z : Int, CDivW z (x : Int) := fun z => ⟨by omega, log_small (Nat.lt_of_le_of_lt (show ((x : Int)).natAbs ≤ b.natAbs by omega) bb) (by omega)⟩
        have e : gL a b = (x : Int) := by unfold gL; rw [hx]
        refine ⟨_, rfl, _, rfl, _, _, rfl, rfl, wd _, _, rfl, _, rfl, _, _, rfl, rfl, wd _, (by show 2 ≤ sizeLine; decide), fun q hq => ?_⟩
        have kq := k q hq
        rw [e] at kq
        exact kq
      · refine ifT (by
          rw [decide_eq_false]
          · rfl
          · intro z
            have := V.int.inj z
            omega) ?_
        have y0 : (0 : Int) < (y : Int) := by omega
        refine ⟨_, rfl, _, rfl, _, rfl, _, _, rfl, rfl, y0, _, _, rfl, ⟨y, x % y, ?_, rfl, by rw [gcd_step, hg]⟩, ?_⟩
        · rw [Int.natCast_emod]; rfl
        · show ((x : Int) % (y : Int)).natAbs < ((y : Int)).natAbs
          have := Nat.mod_lt x (Nat.pos_of_ne_zero hy)
          omega
    · intro σ H2 Q1 Q2 m h
      obtain ⟨v, e, h1, b1, e2, h2⟩ := h
      exact ⟨v, e, h1, b1, e2, m _ _ h2⟩
end
end My

set_option linter.all false
namespace My
open PySem PySem.Spec PyProof.Rows L2
/-! ### drawn names -/
abbrev sSome : Stmt := topS 22
def chC (c : Nat) : Str := ⟨#[c]⟩
def smallS : Str := "abcdefghijklmnopqrstuvwxyz"
theorem small_tl : smallS.cps.toList = (List.range 26).map (97 + ·) := by decide +kernel
theorem small_at {i : Nat} (h : i < 26) : (smallS.cps[i]?).getD 0 = 97 + i := by
  rw [← Array.getElem?_toList, small_tl, List.getElem?_map, List.getElem?_range h]; rfl
def repW (k : Nat) (c : Nat) : Str := ofL (List.replicate k (tl (chC c))).flatten
theorem tl_repW (k c : Nat) : tl (repW k c) = List.replicate k c := by
  show (List.replicate k [c]).flatten = _
  induction k with
  | zero => rfl
  | succ k ih => rw [List.replicate_succ, List.flatten_cons, ih]; rfl
theorem repW_ok {k c : Nat} (k1 : 1 ≤ k) (k8 : k ≤ 8) (h0 : 97 ≤ c) (h1 : c ≤ 122) : NameOk (repW k c) := by
  refine ⟨fun x hx => ?_, ?_, ?_⟩
  · rw [tl_repW] at hx
    rw [(List.mem_replicate.mp hx).2]; exact ⟨h0, h1⟩
  · rw [len_tl, tl_repW, List.length_replicate]; exact k1
  · rw [len_tl, tl_repW, List.length_replicate]; exact k8
theorem repW_inj {k c d : Nat} (k1 : 1 ≤ k) (h : repW k c = repW k d) : c = d := by
  have := congrArg tl h
  rw [tl_repW, tl_repW] at this
  have h2 := congrArg List.head? this
  rw [List.head?_replicate, List.head?_replicate, if_neg (by omega), if_neg (by omega)] at h2
  exact Option.some.inj h2
theorem join_cs (cs : List Nat) : tl (Txt.join "" (cs.map chC)) = cs := by
  rw [join_nil, List.map_map]
  induction cs with
  | nil => rfl
  | cons c r ih => rw [List.map_cons, List.flatten_cons, ih]; rfl
theorem word_ok {cs : List Nat} (h : ∀ c ∈ cs, 97 ≤ c ∧ c ≤ 122) (l1 : 1 ≤ cs.length) (l8 : cs.length ≤ 8) : NameOk (Txt.join "" (cs.map chC)) :=
  ⟨fun c hc => by rw [join_cs] at hc; exact h c hc, by rw [len_tl, join_cs]; exact l1, by rw [len_tl, join_cs]; exact l8⟩
theorem more_ok {x : Str} {c : Nat} (h : NameOk x) (l : x.length < 8) (h0 : 97 ≤ c) (h1 : c ≤ 122) : NameOk (x ++ chC c) := by
  have e : (x ++ chC c).length = x.length + 1 := by rw [len_tl, tl_ap, List.length_append, ← len_tl]; rfl
  refine ⟨fun d hd => ?_, by omega, by omega⟩
  rw [tl_ap] at hd
  rcases List.mem_append.mp hd with hd | hd
  · exact h.lets d hd
  · rw [List.mem_singleton.mp hd]; exact ⟨h0, h1⟩
theorem sub_len : ∀ (l fs : List Str), l.Nodup → (∀ x ∈ l, x ∈ fs) → l.length ≤ fs.length
  | [], fs, _, _ => Nat.zero_le _
  | a :: r, fs, n, h => by
    have n' := List.nodup_cons.mp n
    have ih := sub_len r (fs.erase a) n'.2 fun x hx => (List.mem_erase_of_ne (fun e => n'.1 (by rw [← e]; exact hx))).mpr (h x (List.mem_cons_of_mem _ hx))
    have := List.length_erase_of_mem (h a List.mem_cons_self)
    have p := List.length_pos_of_mem (h a List.mem_cons_self)
    rw [List.length_cons]; omega
theorem spare_is {fs : List Str} {k : Nat} (k1 : 1 ≤ k) (l : fs.length < 26) : ∃ i, i < 26 ∧ repW k (97 + i) ∉ fs := by
  refine Classical.byContradiction fun z => ?_
  have all : ∀ x ∈ (List.range 26).map fun i => repW k (97 + i), x ∈ fs := fun x hx => by
    obtain ⟨i, hi, rfl⟩ := List.mem_map.mp hx
    exact Classical.byContradiction fun y => z ⟨i, List.mem_range.mp hi, y⟩
  have nd : ((List.range 26).map fun i => repW k (97 + i)).Nodup := List.Pairwise.map _ (fun a b ne e => ne (by have := repW_inj k1 e; omega)) List.nodup_range
  have := sub_len _ fs nd all
  rw [List.length_map, List.length_range] at this
  omega
theorem inV_texts (r : Str) (l : List Str) : inV (.str r) (l.map V.str) = decide (r ∈ l) := by
  unfold inV
  rw [List.any_map]
  induction l with
  | nil => rfl
  | cons x l ih =>
    rw [List.any_cons, ih]
    by_cases h : r = x
    · subst h
      simp [eqV]
    · have h' : ¬ x = r := fun e => h e.symm
      simp [eqV, h, h']
theorem flat_texts (l : List Str) : (l.map V.str).all flatV = true := List.all_eq_true.mpr fun x hx => by
  obtain ⟨b, _, rfl⟩ := List.mem_map.mp hx
  rfl
theorem strOk_nm {x : Str} (h : NameOk x) : PyData.strOk x = true := by
  unfold PyData.strOk
  rw [← Array.all_toList]
  exact List.all_eq_true.mpr fun c hc => decide_eq_true (by have := h.lets c hc; omega)
theorem dp_textsD {K : PySem.W.Frag} {H : Hp} {a : Addr} {l : List Str} (h : H a = some (.lst (l.map V.str))) : Dp K H (.ref a) (.list (l.map PyData.str)) := by
  refine .lst (SqL.of h) ?_
  clear h
  induction l with
  | nil => exact .nil
  | cons x r ih => exact .cons (.str x) ih
theorem shp_textsD {l : List Str} (h : ∀ x ∈ l, NameOk x) : SeqAt.shaped (.list (l.map PyData.str)) = true := by
  have h1 : PyData.canLayAll0 (l.map PyData.str) = true := by
    induction l with
    | nil => simp [PyData.canLayAll0]
    | cons x r ih => simp only [List.map_cons, PyData.canLayAll0, PyData.canLay0, ih fun y hy => h y (List.mem_cons_of_mem _ hy), strOk_nm (h x List.mem_cons_self), Bool.and_true]
  have h2 : PyData.depthAll (l.map PyData.str) = 0 := by
    clear h1 h
    induction l with
    | nil => simp only [List.map_nil, PyData.depthAll]
    | cons x r ih => simp only [List.map_cons, PyData.depthAll, PyData.depth, ih]; rfl
  unfold SeqAt.shaped
  simp only [PyData.canLay0, PyData.depth, h1, h2]
  rfl
theorem ne_texts {l : List Str} : (!PyData.eqv (.list (l.map PyData.str)) (.list [])) = !l.isEmpty := by
  cases l with
  | nil => simp [PyData.eqv, PyData.eqvAll]
  | cons a r => simp [PyData.eqv, PyData.eqvAll]
def rLenQ (K : PySem.W.Frag) : List V → Hp → VK → Prop := fun xs H Q => ∃ p ys, xs = [V.ref p] ∧ (SqL K H p ys ∨ SqT K H p ys) ∧ Q (.int ys.length) H
def spSome : Sp := fun vs H Q _ => ∃ (p c : Addr) (m t : Nat), vs = [.ref p, .int m] ∧ m ≤ 8 ∧ PenD H p c t ∧ t + 120 < 2 ^ 29 ∧
  ∀ (l : Addr) (ns : List Str) (H' : Hp), NamesOk ns m → H l = none → But p H H' → PenD H' p c (t + 100) → H' l = some (.lst (ns.map V.str)) → Q (.ref l) H'
section
variable {P : Program} {w : World} {K : PySem.W.Frag} {mg : Str → Option Value} {base : Heap}
theorem scSome : FnScope ["pen", "many", "small", "found", "some", "word", "spare", "k", "one"] ["pen", "many"] (defScope sSome) := ⟨rfl, rfl, rfl, by decide +kernel, rfl, by decide +kernel, by decide +kernel⟩
theorem ok_some {f fT fOn : Addr} {fd fdT fdOn : FuncData} (F : Fun K "_law_some_names" "_law_some_names" sSome f fd) (T : TxD mg)
    (FT : Fun K "_law_draw" "_law_draw" sDraw fT fdT) (GT : FnOk P w K mg base CX0 2 fT fdT ["pen", "many"] spDraw) (bT : Binds K fdT ["pen", "many"] []) (gT : mg "_law_draw" = some (.ref fT))
    (FOn : Fun K "_law_one_of" "_law_one_of" sOneOf fOn fdOn) (GOn : FnOk P w K mg base CX0 3 fOn fdOn ["pen", "some"] spOneOf) (bOn : Binds K fdOn ["pen", "some"] []) (gOn : mg "_law_one_of" = some (.ref fOn)) :
    FnOk P w K mg base CX0 4 f fd ["pen", "many"] spSome := by
  refine F.ok scSome (fun vs H Q E h => ?_) (fun cdv A outer s H vs Q E hr h => ?_)
  · obtain ⟨p, c, m, t, rfl, _⟩ := h
    rfl
  · obtain ⟨p, c, m, t, rfl, m8, C, tt, k⟩ := h
    have hr3 := hr
    have hr2 : Room 2 _ := hr.mono (by decide)
    refine ⟨_, (pss_cons (ps_set (i := 2) scSome.nd rfl (Or.inr rfl) pe_str)
      (pss_cons (ps_set (i := 3) scSome.nd rfl (Or.inr rfl) (pe_lst pa_nil))
      (pss_cons (ps_while PassesOwn.never (pt_cmpR op_lt (pe_callB call_len_seq (by rfl) T.len PySem.boot_len (pa_cons (pv 3) pa_nil)) (pv 1) (nomark _)) (pss_cons (ps_setLc (i := 4) (own := [("k", 7)]) (g := gName 7) (tt := tYes) rfl scSome.nd rfl (by rfl) (sw_true (by rfl) (by rfl) (by rfl) (by rfl)) (pi_range1 (by rfl) T.range (pa_cons (pe_op op_add pe_int (pe_call GT hr2 (by rfl) gT FT.kp bT .nil pass0 (pa_cons (pv 0) (pa_cons pe_int pa_nil)))) pa_nil)) (blkOk_by (N := ["pen", "many", "small", "found", "some", "word", "spare", "k", "one"]) (sc := defScope sSome) (by decide +kernel)) (fun _ _ _ _ _ => (pg_name (i := 7) scSome.nd rfl (Or.inl rfl))) (fun _ _ _ _ _ => pts_nil) (fun _ _ _ _ _ => (pe_call GOn hr3 (by rfl) gOn FOn.kp bOn .nil pass0 (pa_cons (pv 0) (pa_cons (pv 2) pa_nil)))))
      (pss_cons (ps_set (i := 5) scSome.nd rfl (Or.inl rfl) (pe_bm PySem.F.plainAttrs_str PySem.F.slot_str_join PySem.F.type_str_join mt_join pe_str (pa_cons (pe_slice sl_list (pv 4) po_none (po_some (pe_call GOn hr3 (by rfl) gOn FOn.kp bOn .nil pass0 (pa_cons (pv 0) (pa_cons (pe_lst (pa_cons pe_int (pa_cons pe_int (pa_cons pe_int pa_nil)))) pa_nil))))) pa_nil)))
      (C8.pss_cut (ps_if (PW.pt (pw_and (pt_cmpR (op_neD hr.units) (pv 3) (pe_lst pa_nil) (nomark _)) (pw_and (pt_cmpR op_lt (pe_callB call_len_str (by rfl) T.len PySem.boot_len (pa_cons (pe_ix ix_list (pv 3) pe_int (fun _ _ => rfl)) pa_nil)) pe_int (nomark _)) (pw_and1 (pt_cmpR op_eq (pe_call GT hr2 (by rfl) gT FT.kp bT .nil pass0 (pa_cons (pv 0) (pa_cons pe_int pa_nil))) pe_int (nomark _)))))) (pss_one (ps_set (i := 5) scSome.nd rfl (Or.inl rfl) (pe_op op_add_str (pe_ix ix_list (pv 3) pe_int (fun _ _ => rfl)) (pe_ix ix_list (pv 4) pe_int (fun _ _ => rfl))))) pss_nil)
      (pss_cons (ps_setLc (i := 6) (own := [("one", 8)]) (g := gName 8) rfl scSome.nd rfl (by rfl) (sw_true (by rfl) (by rfl) (by rfl) (by rfl)) (pi_str (pv 2)) (blkOk_by (N := ["pen", "many", "small", "found", "some", "word", "spare", "k", "one"]) (sc := defScope sSome) (by decide +kernel)) (fun _ _ _ _ _ => (pg_name (i := 8) scSome.nd rfl (Or.inl rfl))) (fun _ _ _ _ _ => (pts_one (pt_cmpR (show OpR _ _ (rIn K true) from op_notIn_seq) (pe_op (show OpR _ _ rMulS from op_mulS) (pv 8) (pe_op op_add pe_int (pe_callB (show CallR _ _ (rLenQ K) from call_len_seq) (by rfl) T.len PySem.boot_len (pa_cons (pv 3) pa_nil)))) (pv 3) (by rfl)))) (fun _ _ _ _ _ => (pe_op (show OpR _ _ rMulS from op_mulS) (pv 8) (pe_op op_add pe_int (pe_callB (show CallR _ _ (rLenQ K) from call_len_seq) (by rfl) T.len PySem.boot_len (pa_cons (pv 3) pa_nil))))))
      (pss_one (ps_expr (pe_bm PySem.F.plainAttrs_list PySem.F.slot_list_append PySem.F.type_list_append mt_append (pv 3) (pa_cons (pe_ifExp (pt_cmpR op_in_seq (pv 5) (pv 3) (by rfl)) (pe_ix ix_list (pv 6) pe_int (fun _ _ => rfl)) (pv 5)) pa_nil)))))))))
      (pss_one (ps_ret (pv 3)))))), ?_⟩
    refine ⟨(by show 0 ≤ sizeLine; decide), fun F' nF => ?_⟩
    have Fp : F' ≠ p := C.not nF
    have Fc : F' ≠ c := fun z => C.at_c (by rw [← z]; exact nF)
    refine while_by (fun σ H2 => ∃ (x4 x5 x6 : Option V) (fs : List Str), σ = [some (.ref p), some (.int m), some (.str smallS), some (.ref F'), x4, x5, x6, none, none] ∧ H2 F' = some (.lst (fs.map V.str)) ∧ fs.length ≤ m ∧ fs.Nodup ∧ (∀ x ∈ fs, NameOk x) ∧ PenD H2 p c (t + 12 * fs.length) ∧ ∀ b o, b ≠ p → b ≠ F' → H b = some o → H2 b = some o) (fun _ H2 => match H2 F' with | some (.lst xs) => m - xs.length | _ => 0) ?_ ?_ ?_
    · exact ⟨none, none, none, [], rfl, upd_same, Nat.zero_le _, List.nodup_nil, (fun _ h => nomatch h), C.agree Fp Fc (fun b hb => upd_ne hb) (Nat.le_refl _), fun b o _ hb e => by rw [upd_ne hb]; exact e⟩
    · rintro σ H2 ⟨x4, x5, x6, fs, rfl, hF, fl, nd, fok, C2, kp⟩
      refine ⟨_, rfl, F', _, rfl, .inl (SqL.of hF), _, rfl, _, _, rfl, rfl, _, rfl, ?_⟩
      rw [List.length_map]
      by_cases hm : fs.length = m
      · refine ifF (decide_eq_false (by omega)) ?_
        refine ⟨_, rfl, k F' fs H2 ⟨hm, nd, fok⟩ nF (fun b o hb e => kp b o hb (ne_of_none e nF) e) (C2.same (Same.refl _) (by omega)) hF⟩
      · refine ifT (decide_eq_true (by omega)) ?_
        have lt7 : fs.length ≤ 7 := by omega
        have hF26 : fs.length < 26 := by omega
        -- some
        refine ⟨_, rfl, p, c, 8, _, rfl, by decide, by decide, C2, by omega, fun d H3 d0 d1 b3 C3 => ⟨_, _, rfl, rfl, _, rfl, by omega, by omega, fun D nD => ?_⟩⟩
        have hF3 := b3 _ _ Fp hF
        have Dp : D ≠ p := C3.not nD
        have Dc : D ≠ c := fun z => C3.at_c (by rw [← z]; exact nD)
        have DF' : D ≠ F' := (ne_of_none hF3 nD).symm
        refine lc_it (walk_range (lo := 0) (n := (1 + d).toNat)) (fun i Hi => PenD Hi p c (t + 12 * fs.length + 1 + i) ∧ i ≤ 8 ∧ (∀ b o, b ≠ p → H3 b = some o → Hi b = some o) ∧ ∃ l : List Nat, l.length = i ∧ (∀ x ∈ l, 97 ≤ x ∧ x ≤ 122) ∧ Hi D = some (.lst ((l.map chC).map V.str)))
          ⟨C3.agree Dp Dc (fun b hb => upd_ne hb) (by omega), by omega, (fun b o _ e => by rw [upd_ne (ne_of_none e nD)]; exact e), [], rfl, (fun _ h => nomatch h), upd_same⟩ (fun _ _ _ _ => trivial) ?_ ?_
        · rintro i x Hi Hj hi ⟨C4, _, b4, l, ll, lc, hD⟩ ⟨rfl, hx⟩
          refine ⟨rfl, ?_⟩
          refine ⟨_, rfl, _, rfl, p, c, _, .str smallS, rfl, C4, by omega, .inr ⟨smallS, rfl, by decide +kernel, by decide +kernel, fun ch H5 cin b5 C5 => ?_⟩⟩
          refine ⟨_, b5 _ _ Dp hD, by rw [List.length_map, List.length_map, sizeLine_eq]; omega, C5.agree Dp Dc (fun b hb => upd_ne hb) (by omega), by omega, fun b o hb e => ?_, l ++ [ch], by rw [List.length_append, ll]; rfl, fun y hy => ?_, by rw [upd_same, List.map_append, List.map_append]; rfl⟩
          · rw [upd_ne (ne_of_none e nD)]; exact b5 _ _ hb (b4 _ _ hb e)
          · rcases List.mem_append.mp hy with h | h
            · exact lc y h
            · rw [List.mem_singleton.mp h]
              rw [small_tl] at cin
              obtain ⟨j, hj, rfl⟩ := List.mem_map.mp cin
              have := List.mem_range.mp hj
              omega
        rintro H4 ⟨C4, _, b4, l, ll, lc, hD⟩
        have l1 : 1 ≤ l.length := by omega
        have l8 : l.length ≤ 8 := by omega
        have hF4 := b4 _ _ Fp hF3
        -- word
        refine ⟨rfl, _, rfl, _, rfl, (by show 3 ≤ sizeLine; decide), fun l3 nl3 => ?_⟩
        have s3 : Same H4 (upd H4 l3 (.lst [.int 1, .int 2, .int 8])) := Same.upd nl3
        have l3p : l3 ≠ p := C4.not nl3
        refine ⟨p, c, _, .ref l3, rfl, C4.same s3 (Nat.le_refl _), by omega, .inl ⟨l3, _, rfl, l3p, upd_same, (fun z => nomatch z), by decide, fun v H5 vin b5 C5 => ?_⟩⟩
        obtain ⟨q, rfl, q0, q8⟩ : ∃ q : Nat, v = .int (q : Int) ∧ 1 ≤ q ∧ q ≤ 8 := by
          simp only [List.mem_cons, List.not_mem_nil, or_false] at vin
          rcases vin with rfl | rfl | rfl
          · exact ⟨1, rfl, by decide, by decide⟩
          · exact ⟨2, rfl, by decide, by decide⟩
          · exact ⟨8, rfl, by decide, by decide⟩
        have b45 : But p H4 H5 := (But.of s3).trans b5
        have hD5 := b45 _ _ Dp hD
        have hF5 := b45 _ _ Fp hF4
        refine ⟨_, rfl, D, _, rfl, SqL.of hD5, fun s6 ns6 => ?_⟩
        have ecut : cutV ((l.map chC).map V.str) none (some (q : Int)) = ((l.take q).map chC).map V.str := by
          unfold cutV
          have a1 : HT.sIx ((l.map chC).map V.str).length 0 none = 0 := rfl
          have a2 : HT.sIx ((l.map chC).map V.str).length ((l.map chC).map V.str).length (some (q : Int)) = min q ((l.map chC).map V.str).length := sIx_nat _ _ q
          rw [a1, a2, List.drop_zero, Nat.sub_zero, List.length_map, List.length_map, List.map_take, List.map_take]
          by_cases h : q ≤ l.length
          · rw [Nat.min_eq_left h]
          · rw [Nat.min_eq_right (by omega), List.take_of_length_le (by simp), List.take_of_length_le (by simp; omega)]
        rw [ecut]
        have s6' : Same H5 (upd H5 s6 (.lst (((l.take q).map chC).map V.str))) := Same.upd ns6
        have h6 : (upd H5 s6 (.lst (((l.take q).map chC).map V.str))) s6 = some (.lst (((l.take q).map chC).map V.str)) := upd_same
        have C6 := C5.same s6' (Nat.le_refl _)
        have hD6 := s6' _ _ hD5
        have hF6 := s6' _ _ hF5
        have k6 : ∀ b o, b ≠ p → b ≠ F' → H b = some o → (upd H5 s6 (.lst (((l.take q).map chC).map V.str))) b = some o := fun b o h1 h2 e => s6' _ _ (b45 _ _ h1 (b4 _ _ h1 (b3 _ _ h1 (kp b o h1 h2 e))))
        generalize upd H5 s6 (.lst (((l.take q).map chC).map V.str)) = H6 at h6 C6 hD6 hF6 k6
        have tq : (l.take q).length = min q l.length := List.length_take
        have wok := word_ok (cs := l.take q) (fun x hx => lc x (List.mem_of_mem_take hx)) (by omega) (by omega)
        refine ⟨"", s6, (l.take q).map chC, rfl, rfl, .inl (SqL.of h6), ?_, ?_⟩
        · have e1 : ∀ zs : List Nat, ((zs.map chC).map (·.length)).sum = zs.length := fun zs => by
            induction zs with
            | nil => rfl
            | cons x r ih => rw [List.map_cons, List.map_cons, List.sum_cons, ih, List.length_cons]; show 1 + r.length = _; omega
          have e2 : (("" : String) : Str).length = 0 := by decide
          rw [e1, e2]; omega
        generalize Txt.join "" ((l.take q).map chC) = wd at wok
        refine ⟨fun σ Ho => ∃ wd : Str, σ = [some (.ref p), some (.int m), some (.str smallS), some (.ref F'), some (.ref D), some (.str wd), x6, none, none] ∧ NameOk wd ∧ PenD Ho p c (t + 12 * fs.length + 12) ∧ Ho F' = some (.lst (fs.map V.str)) ∧ ∀ b o, b ≠ p → b ≠ F' → H b = some o → Ho b = some o, ?_, ?_⟩
        · refine ⟨_, rfl, (by show 0 ≤ sizeLine; decide), fun e7 n7 => ?_⟩
          have s7 : Same H6 (upd H6 e7 (.lst [])) := Same.upd n7
          have h7 : (upd H6 e7 (.lst [])) e7 = some (.lst []) := upd_same
          generalize upd H6 e7 (.lst []) = H7 at s7 h7
          have C7 := C6.same s7 (Nat.le_refl _)
          have k7 : ∀ b o, b ≠ p → b ≠ F' → H b = some o → H7 b = some o := fun b o h1 h2 e => s7 _ _ (k6 b o h1 h2 e)
          have no : ∃ wd : Str, [some (V.ref p), some (.int m), some (.str smallS), some (.ref F'), some (.ref D), some (.str wd), x6, none, none] = [some (V.ref p), some (.int m), some (.str smallS), some (.ref F'), some (.ref D), some (.str wd), x6, none, none] ∧ NameOk wd := ⟨wd, rfl, wok⟩
          refine ⟨_, _, dp_textsD (s7 _ _ hF6), .lst (SqL.of h7) .nil, shp_textsD fok, by decide, _, rfl, ?_⟩
          rw [ne_texts]
          cases fs with
          | nil => exact ifF rfl (ifF rfl ⟨wd, rfl, wok, C7.same (Same.refl _) (by omega), s7 _ _ hF6, k7⟩)
          | cons x0 fr =>
            refine ifT rfl ?_
            refine ⟨_, rfl, F', _, 0, .str x0, rfl, rfl, SqL.of (s7 _ _ hF6), atI_nat (j := 0) rfl, x0, rfl, by have := (fok x0 List.mem_cons_self).hi; rw [sizeLine_eq]; omega, _, _, rfl, rfl, _, rfl, ite2 (fun h => ?_) (fun _ => ifF rfl ⟨wd, rfl, wok, C7.same (Same.refl _) (by omega), s7 _ _ hF6, k7⟩)⟩
            have x7 : x0.length < 8 := by have := of_decide_eq_true h; omega
            refine ⟨_, rfl, p, c, 5, _, rfl, by decide, by decide, C7, by omega, fun z H8 z0 z1 b8 C8 => ?_⟩
            have hF8 := b8 _ _ Fp (s7 _ _ hF6)
            have k8 : ∀ b o, b ≠ p → b ≠ F' → H b = some o → H8 b = some o := fun b o h1 h2 e => b8 _ _ h1 (k7 b o h1 h2 e)
            refine ⟨rfl, _, rfl, ite2 (fun _ => ?_) (fun _ => ⟨wd, rfl, wok, C8.same (Same.refl _) (by omega), hF8, k8⟩)⟩
            obtain ⟨ch, r, rfl⟩ : ∃ ch r, l = ch :: r := by
              cases l with
              | nil => simp at l1
              | cons a r => exact ⟨a, r, rfl⟩
            have hc := lc ch List.mem_cons_self
            refine ⟨_, rfl, F', _, 0, .str x0, rfl, rfl, SqL.of hF8, atI_nat (j := 0) rfl, _, rfl, D, _, 0, .str (chC ch), rfl, rfl, SqL.of (b8 _ _ Dp (s7 _ _ hD6)), atI_nat (j := 0) rfl, _, _, rfl, rfl, by rw [sizeLine_eq]; show x0.length + 1 ≤ _; omega, ?_⟩
            exact ⟨_, rfl, more_ok (fok x0 List.mem_cons_self) x7 hc.1 hc.2, C8.same (Same.refl _) (by omega), hF8, k8⟩
        rintro σ H9 ⟨wd, rfl, wok, C9, hF9, k9⟩
        -- spare
        refine ⟨_, rfl, _, rfl, fun D2 nD2 => ?_⟩
        refine lc_gen (walk_str (z := smallS)) (fun i => !decide (repW (1 + fs.length) ((smallS.cps[i]?).getD 0) ∈ fs)) (fun i => .str (repW (1 + fs.length) ((smallS.cps[i]?).getD 0))) nD2 (by decide +kernel) (fun _ _ => trivial) (fun i y Ha Hb hi sa yy Q2 R q2 r2 => ?_) fun Ha sa hDa => ?_
        · obtain ⟨rfl, ch, hc, rfl⟩ := yy
          refine ⟨rfl, ?_⟩
          rw [hc] at q2 r2
          have hFa := sa _ _ hF9
          have ek : V.int (1 + ((fs.map V.str).length : Int)) = V.int (((1 + fs.length : Nat)) : Int) := by rw [List.length_map, Int.natCast_add]; rfl
          have mul : ∀ Qx : VK, Qx (.str (repW (1 + fs.length) ch)) Hb → tOp rMulS (tVar 8) (tOp (rI0 fun i j => V.int (i + j)) (tC (.int 1)) (tCB (rLenQ K) (tCons (tVar 3) tNil))) [some (.ref p), some (.int m), some (.str smallS), some (.ref F'), some (.ref D), some (.str wd), x6, none, some (.str ⟨#[ch]⟩)] Hb Qx := fun Qx q =>
            ⟨_, rfl, _, rfl, F', _, rfl, .inl (SqL.of hFa), _, _, rfl, rfl, ⟨#[ch]⟩, 1 + fs.length, rfl, ek, by omega, by omega, by show 1 ≤ 1000; decide, q⟩
          refine mul _ ⟨_, rfl, F', _, rfl, .inl (SqL.of hFa), rfl, flat_texts _, _, rfl, ?_⟩
          rw [inV_texts]
          cases hq : decide (repW (1 + fs.length) ch ∈ fs) with
          | true => exact r2 (by show (!decide (repW (1 + fs.length) ch ∈ fs)) = false; rw [hq]; rfl) Hb (Same.refl _)
          | false => exact mul _ (q2 (by show (!decide (repW (1 + fs.length) ch ∈ fs)) = true; rw [hq]; rfl) Hb (Same.refl _))
        obtain ⟨i, i26, hsp⟩ := spare_is (fs := fs) (k := 1 + fs.length) (by omega) hF26
        have hFa := sa _ _ hF9
        -- found.append
        have fin : ∀ (x : Str) (Hz : Hp), Hz = Ha → NameOk x → x ∉ fs → (∃ (x4 x5 x6 : Option V) (gs : List Str), [some (V.ref p), some (.int m), some (.str smallS), some (.ref F'), some (.ref D), some (.str wd), some (.ref D2), none, none] = [some (V.ref p), some (.int m), some (.str smallS), some (.ref F'), x4, x5, x6, none, none] ∧ upd Ha F' (.lst (fs.map V.str ++ [.str x])) F' = some (.lst (gs.map V.str)) ∧ gs.length ≤ m ∧ gs.Nodup ∧ (∀ x ∈ gs, NameOk x) ∧ PenD (upd Ha F' (.lst (fs.map V.str ++ [.str x]))) p c (t + 12 * gs.length) ∧ ∀ b o, b ≠ p → b ≠ F' → H b = some o → upd Ha F' (.lst (fs.map V.str ++ [.str x])) b = some o) ∧
            (match upd Ha F' (.lst (fs.map V.str ++ [.str x])) F' with | some (.lst xs) => m - xs.length | _ => 0) < (match H2 F' with | some (.lst xs) => m - xs.length | _ => 0) := fun x Hz _ xok xn => by
          refine ⟨⟨_, _, _, fs ++ [x], rfl, by rw [upd_same, List.map_append]; rfl, by rw [List.length_append]; show fs.length + 1 ≤ m; omega, ?_, fun y hy => ?_, ?_, fun b o h1 h2 e => by rw [upd_ne h2]; exact sa _ _ (k9 b o h1 h2 e)⟩, ?_⟩
          · exact List.nodup_append.mpr ⟨nd, (by simp), fun a ha b hb e => xn (by rw [← List.mem_singleton.mp hb, ← e]; exact ha)⟩
          · rcases List.mem_append.mp hy with h | h
            · exact fok y h
            · rw [List.mem_singleton.mp h]; exact xok
          · refine (C9.same sa (Nat.le_refl _)).agree Fp Fc (fun b hb => upd_ne hb) ?_
            rw [List.length_append]; show _ ≤ t + 12 * (fs.length + 1); omega
          · rw [upd_same, hF]
            dsimp only
            rw [List.length_append, List.length_map]
            show m - (fs.length + 1) < m - fs.length
            omega
        refine ⟨_, rfl, .inl ⟨rfl, _, SqL.of hFa⟩, ?_⟩
        refine ⟨_, rfl, _, rfl, F', _, rfl, .inl (SqL.of hFa), rfl, flat_texts _, _, rfl, ite2 (fun _ => ?_) (fun hn => ?_)⟩
        · obtain ⟨a, r, ear⟩ : ∃ a r, (List.range smallS.cps.size).filter (fun i => !decide (repW (1 + fs.length) ((smallS.cps[i]?).getD 0) ∈ fs)) = a :: r := by
            have hm : i ∈ (List.range smallS.cps.size).filter (fun i => !decide (repW (1 + fs.length) ((smallS.cps[i]?).getD 0) ∈ fs)) := by
              refine List.mem_filter.mpr ⟨List.mem_range.mpr (Nat.lt_of_lt_of_le i26 (by decide +kernel)), ?_⟩
              rw [small_at i26, decide_eq_false hsp]; rfl
            cases q : (List.range smallS.cps.size).filter (fun i => !decide (repW (1 + fs.length) ((smallS.cps[i]?).getD 0) ∈ fs)) with
            | nil => rw [q] at hm; cases hm
            | cons a r => exact ⟨a, r, rfl⟩
          have ain : a ∈ (List.range smallS.cps.size).filter (fun i => !decide (repW (1 + fs.length) ((smallS.cps[i]?).getD 0) ∈ fs)) := by rw [ear]; exact List.mem_cons_self
          obtain ⟨a1, a2⟩ := List.mem_filter.mp ain
          have a26 : a < 26 := Nat.lt_of_lt_of_le (List.mem_range.mp a1) (by decide +kernel)
          rw [small_at a26] at a2
          have an : repW (1 + fs.length) (97 + a) ∉ fs := by simpa using a2
          rw [ear, List.map_cons, small_at a26] at hDa
          refine ⟨_, rfl, D2, _, 0, _, rfl, rfl, SqL.of hDa, atI_nat (j := 0) rfl, F', _, _, rfl, rfl, hFa, by rw [List.length_map, sizeLine_eq]; omega, ?_⟩
          exact fin _ Ha rfl (repW_ok (by omega) (by omega) (by omega) (by omega)) an
        · have xn : wd ∉ fs := by
            intro h
            apply hn
            rw [inV_texts]; exact decide_eq_true h
          exact ⟨_, rfl, F', _, _, rfl, rfl, hFa, by rw [List.length_map, sizeLine_eq]; omega, fin wd Ha rfl wok xn⟩
    · intro σ H2 Q1 Q2 q h
      obtain ⟨v, e, a', ys, e1, e2, v2, e3, i, j, e4, e5, bb, e6, h2⟩ := h
      exact ⟨v, e, a', ys, e1, e2, v2, e3, i, j, e4, e5, bb, e6, q _ _ h2⟩
end
end My

set_option linter.all false
namespace My
open PySem PySem.Spec PyProof.Rows L2
/-! ### sorted of data that can be compared, tuples in tuples too -/
section
variable {X : Cx}
def rSortX (w : World) : List V → Hp → VK → Prop := fun xs H Q => ∃ (a : Addr) (zs : List (V × PyData)), xs = [.ref a] ∧ H a = some (.lst (zs.map (·.1))) ∧ (∀ z ∈ zs, Dx w H z.1 z.2) ∧
  PySem.W.AllAlike (zs.map (·.2)) ∧ PySem.W.Sortable (zs.map (·.2)) ∧ (∀ z ∈ zs, z.2.depth ≤ 50) ∧ ∀ p, H p = none → Q (.ref p) (upd H p (.lst ((zs.mergeSort (PySem.W.dataLe false (·.2))).map (·.1))))
theorem each_rel : ∀ {zs : List (V × PyData)} {us : List Value}, Vals (zs.map (·.1)) us → PySem.W.EachIs (fun u z => RelV z.1 u) us zs
  | [], us, r => by cases r; exact .nil
  | z :: zs, us, r => by
    cases r with
    | cons a b => exact .cons a (each_rel b)
theorem each_vals : ∀ {zs : List (V × PyData)} {us : List Value}, PySem.W.EachIs (fun u z => RelV z.1 u) us zs → Vals (zs.map (·.1)) us
  | _, _, .nil => .nil
  | _, _, .cons a b => .cons a (each_vals b)
theorem each_reads {pins : List (Addr × Obj)} {σ : L2.St} {H : Hp} {s : Shared} (I : Inv X pins σ H s) : ∀ {zs : List (V × PyData)} {us : List Value}, PySem.W.EachIs (fun u z => RelV z.1 u) us zs → (∀ z ∈ zs, Dx X.w H z.1 z.2) → PySem.W.EachIs (fun u z => ∃ as, Reads s.heap u z.2 as) us zs
  | _, _, .nil, _ => .nil
  | _, _, .cons a b, h => .cons (Dx.reads I _ _ _ (h _ List.mem_cons_self) a) (each_reads I b fun z hz => h z (List.mem_cons_of_mem _ hz))
theorem cr_sortedX (hu : X.A.units + 64 < cLine) : CallR X (.builtin "sorted") (rSortX X.w) := by
  intro pins s σ H xs us Q I r h
  obtain ⟨a, zs, rfl, ha, hd, hal, hk, hdp, q⟩ := h
  obtain ⟨u, rfl, rx⟩ := vals1 r
  cases (show u = Value.ref a from rx)
  obtain ⟨hz, its, n, rv, hl⟩ := (show ObjOk X.prog X.w H s.heap a (.lst (zs.map (·.1))) from I.hok a _ ha)
  have e := each_rel rv
  rw [List.length_map] at hz
  refine PySem.W.sorted_data (enc := fun z : V × PyData => z.2) ⟨_, hl, rfl, n, rfl⟩ e (each_reads I e hd) hal hk hz (fun z hz => by have := hdp z hz; omega) fun out ol eo => ?_
  obtain ⟨c, hc⟩ := sortedAll_at s.heap its out.toArray
  have lo : ((zs.mergeSort (PySem.W.dataLe false (·.2))).map (·.1)).length ≤ sizeLine := by rw [List.length_map, List.length_mergeSort]; exact hz
  exact ⟨.ref (s.heap.objs.size + 1), upd H (s.heap.objs.size + 1) (.lst ((zs.mergeSort (PySem.W.dataLe false (·.2))).map (·.1))), I.laid (t' := s.toks) (fun b o g => sortedAll_old g) (Nat.le_succ _)
    (show ObjOk X.prog X.w _ _ _ (.lst _) from ⟨lo, out, c, each_vals eo, hc⟩), rfl, q _ (I.hok.fresh (Nat.le_succ _))⟩
end
end My

set_option linter.all false
namespace My
open PySem PySem.Spec PyProof.Rows L2
/-! ### data that can be compared; lcm -/
section
variable {X : Cx}
def rLtX (w : World) : R2 := fun x y H Q => ∃ d e, Dx w H x d ∧ Dx w H y e ∧ PySem.W.alike d e = true ∧ d ≠ .none ∧ d.depth ≤ 60 ∧ Q (.bl (PySem.W.dataLt d e)) H
theorem op_ltX (hu : X.A.units + 64 < cLine) : OpR X (compareOp .Lt) (rLtX X.w) := by
  intro pins s σ H x y v u Q I rx ry h
  obtain ⟨d, e, hd, he, al, nn, dp, q⟩ := h
  obtain ⟨as, r1⟩ := Dx.reads I d x v hd rx
  obtain ⟨bs, r2⟩ := Dx.reads I e y u he ry
  exact PySem.W.rcLt_alike d e X.A s v u as bs r1 r2 al nn (by omega) X.prog X.w X.xe (EP X pins σ Q) ⟨.bl _, H, I, rfl, q⟩
def rEqX (w : World) (f : Bool → Bool) : R2 := fun x y H Q => ∃ d e, Dx w H x d ∧ Dx w H y e ∧ SeqAt.shaped d = true ∧ SeqAt.shaped e = true ∧ Q (.bl (f (PyData.eqv d e))) H
theorem op_eqX (hu : X.A.units + 64 < cLine) : OpR X (compareOp .Eq) (rEqX X.w id) := by
  intro pins s σ H x y v u Q I rx ry h
  obtain ⟨d, e, hd, he, sd, se, q⟩ := h
  obtain ⟨as, r1⟩ := Dx.reads I d x v hd rx
  obtain ⟨bs, r2⟩ := Dx.reads I e y u he ry
  exact SeqAt.compareEq_shaped r1 r2 sd se hu ⟨.bl _, H, I, rfl, q⟩
theorem op_neX (hu : X.A.units + 64 < cLine) : OpR X (compareOp .NotEq) (rEqX X.w not) := by
  intro pins s σ H x y v u Q I rx ry h
  obtain ⟨d, e, hd, he, sd, se, q⟩ := h
  obtain ⟨as, r1⟩ := Dx.reads I d x v hd rx
  obtain ⟨bs, r2⟩ := Dx.reads I e y u he ry
  exact SeqAt.compareNe_shaped r1 r2 sd se hu ⟨.bl _, H, I, rfl, q⟩
def rLcm : List V → Hp → VK → Prop := fun vs H Q => ∃ a b : Nat, vs = [.int a, .int b] ∧ a < 2 ^ 6000 ∧ b < 2 ^ 6000 ∧ Q (.int ((Nat.lcm a b : Nat) : Int)) H
theorem cr_lcm : CallR X (.builtin "math.lcm") rLcm := by
  intro pins s σ H vs us Q I r h
  obtain ⟨a, b, rfl, ha, hb, q⟩ := h
  obtain ⟨t, u, rfl⟩ := Vals.int2 r
  have lg : ∀ n : Nat, n < 2 ^ 6000 → n.log2 < 6000 := fun n hn => PySem.Flt.log2_lt_of (by decide) hn
  have e1 : ((((Nat.lcm 1 (a : Int).natAbs).lcm (b : Int).natAbs : Nat) : Int)) = ((Nat.lcm a b : Nat) : Int) := by
    rw [Int.natAbs_natCast, Int.natAbs_natCast, Nat.lcm_one_left]
  have l1 : (max 1 (a : Int).natAbs).log2 < 6000 := lg _ (by rw [Int.natAbs_natCast]; exact Nat.max_lt.mpr ⟨Nat.one_lt_two_pow (by decide), ha⟩)
  have l2 : (max (a : Int).natAbs (b : Int).natAbs).log2 < 6000 := lg _ (by rw [Int.natAbs_natCast, Int.natAbs_natCast]; exact Nat.max_lt.mpr ⟨ha, hb⟩)
  have le : Nat.lcm a b ≤ a * b := by
    rcases Nat.eq_zero_or_pos (a * b) with z | z
    · rcases Nat.mul_eq_zero.mp z with z | z <;> (subst z; simp)
    · exact Nat.le_of_dvd z (Nat.lcm_dvd (Nat.dvd_mul_right _ _) (Nat.dvd_mul_left _ _))
  have hm : a * b < 2 ^ 12000 := by
    have : (2 : Nat) ^ 12000 = 2 ^ 6000 * 2 ^ 6000 := by rw [← Nat.pow_add]
    rw [this]
    exact Nat.mul_lt_mul'' ha hb
  have sz : ((((Nat.lcm 1 (a : Int).natAbs).lcm (b : Int).natAbs : Nat) : Int)).natAbs.log2 < bitsLine := by
    rw [e1, Int.natAbs_natCast]
    exact Nat.lt_trans (PySem.Flt.log2_lt_of (k := 12000) (by decide) (Nat.lt_of_le_of_lt le hm)) (by decide)
  refine call_function_meets PySem.W.MGF.kind_lcm PySem.W.MGF.plain_lcm PySem.W.MGF.entry_lcm (PySem.W.MGF.args_lcm _ _) (PySem.W.mg_run_lcm (a : Int) t (b : Int) u (by omega) (by omega) sz).meets ?_
  rw [e1]
  exact ⟨.int _, H, I.tok _, ⟨_, rfl⟩, q⟩
end
end My

set_option linter.all false
namespace My
open PySem PySem.Spec PyProof.Rows L2
/-! ### the heap without the pen -/
def off (H : Hp) (p : Addr) : Hp := fun a => if a = p then none else H a
theorem off_at {H : Hp} {p : Addr} : off H p p = none := if_pos rfl
theorem off_ne {H : Hp} {p a : Addr} (h : a ≠ p) : off H p a = H a := if_neg h
theorem off_same {H : Hp} {p : Addr} : Same (off H p) H := fun a o h => by
  by_cases c : a = p
  · rw [c, off_at] at h; cases h
  · rw [off_ne c] at h; exact h
theorem off_but {p : Addr} {H H' : Hp} (b : But p H H') : Same (off H p) (off H' p) := fun a o h => by
  by_cases c : a = p
  · rw [c, off_at] at h; cases h
  · rw [off_ne c] at h ⊢; exact b a o c h
theorem off_of {p : Addr} {H H' : Hp} (e : Same H H') : Same (off H p) (off H' p) := off_but (But.of e)
theorem nw_off {p : Addr} {G' H H' : Hp} (m : Nw (off H p) H G' H') (hp : H p ≠ none) : Same G' (off H' p) := fun c o h => by
  have gp : G' p = none := (m.old p hp).trans off_at
  have cp : c ≠ p := fun e => by rw [e, gp] at h; cases h
  rw [off_ne cp]; exact m.gh _ _ h
theorem tup_off {p pc t : Addr} {n : Nat} {H : Hp} {xs : List V} (P : PenC H p pc n) (h : H t = some (.tup xs)) : off H p t = some (.tup xs) := by
  by_cases z : t = p
  · subst z
    obtain ⟨cells, x, y, g1, _⟩ := P.ex
    rw [g1] at h; cases h
  · rw [off_ne z]; exact h
/-! ### data made by an expression, dicts too -/
def tDx (w : World) (d : PyData) : TE := fun _ H Q => ∃ G, Same G H ∧ ∀ v G' H', Nw G H G' H' → Dx w G' v d → Q v H'
def tDxs (w : World) (ds : List PyData) : TA := fun _ H Q => ∃ G, Same G H ∧ ∀ vs G' H', Nw G H G' H' → DxAll w G' vs ds → Q vs H'
theorem df_leaf {w : World} {H G : Hp} {d : Addr} {kvs : List Kvv} {od : Obj} {u : HO} (h : DF w H d kvs) (e : H d = some (.frz od u)) (g : G d = some (.frz od u)) (k : ∀ x ∈ kvs, KeyV G x.1 x.2.1) : DF w G d kvs := by
  obtain ⟨od2, u2, es, ep, h1, h2, h3, h4, h5, h6⟩ := h
  rw [e] at h1
  cases h1
  refine ⟨od, u, es, ep, g, h2, h3, h4, ⟨?_, h5.nod, h5.lt⟩, h6⟩
  have p := h5.prd
  clear h5 h2 h3 h4 e g
  generalize es.toList = l at p
  induction p with
  | nil => exact .nil
  | cons h t ih => exact .cons ⟨k _ List.mem_cons_self, h.2⟩ (ih fun x hx => k x (List.mem_cons_of_mem _ hx))
section
variable {X : Cx} {pos : Pos}
theorem dx_int {i : Int} {j : Nat} : PE X (.Constant (.int i) j pos) (tDx X.w (.int i)) := PE.imp pe_int fun _ _ _ ⟨_, e, k⟩ => k _ _ _ (Nw.refl e) (.int i)
theorem dx_str {x : Str} {j : Nat} : PE X (.Constant (.str x) j pos) (tDx X.w (.str x)) := PE.imp pe_str fun _ _ _ ⟨_, e, k⟩ => k _ _ _ (Nw.refl e) (.str x)
theorem dx_bl {b : Bool} {j : Nat} : PE X (.Constant (.bool b) j pos) (tDx X.w (.bool b)) := PE.imp pe_bl fun _ _ _ ⟨_, e, k⟩ => k _ _ _ (Nw.refl e) (.bl b)
theorem dx_non {j : Nat} : PE X (.Constant .none j pos) (tDx X.w .none) := PE.imp pe_non fun _ _ _ ⟨_, e, k⟩ => k _ _ _ (Nw.refl e) .non
theorem dx_neg {i : Int} {j : Nat} {p : Pos} : PE X (.UnaryOp .USub (.Constant (.int i) j p) pos) (tDx X.w (.int (-i))) := PE.imp (pe_un un_neg pe_int) fun _ _ _ ⟨_, e, k⟩ => ⟨i, rfl, k _ _ _ (Nw.refl e) (.int _)⟩
theorem dx_pow {i j : Int} {a b : Nat} {p q : Pos} (h : CPow i j) : PE X (.BinOp (.Constant (.int i) a p) .Pow (.Constant (.int j) b q) pos) (tDx X.w (.int (i ^ j.toNat))) :=
  PE.imp (pe_op op_pow pe_int pe_int) fun _ _ _ ⟨_, e, k⟩ => ⟨i, j, rfl, rfl, h, k _ _ _ (Nw.refl e) (.int _)⟩
theorem dxs_nil : PA X [] (tDxs X.w []) := PA.imp pa_nil fun _ _ _ ⟨_, e, k⟩ => k _ _ _ (Nw.refl e) .nil
theorem dxs_cons {e : Expr} {es : List Expr} {d : PyData} {ds : List PyData} (h1 : PE X e (tDx X.w d)) (h2 : PA X es (tDxs X.w ds)) (hs : starEach (e :: es) X.env = (false, eval e X.env) :: starEach es X.env := by rfl) : PA X (e :: es) (tDxs X.w (d :: ds)) :=
  PA.imp (pa_cons h1 h2 hs) fun _ _ _ ⟨G, e, k⟩ => ⟨G, e, fun _ G1 _ n1 d1 => ⟨G1, n1.gh, fun _ _ _ n2 d2 => k _ _ _ (n1.trans n2) (.cons (d1.mono n2.gg) d2)⟩⟩
theorem dx_tup {es : List Expr} {ds : List PyData} {x1} (h : PA X es (tDxs X.w ds)) (hl : ds.length ≤ sizeLine) : PE X (.Tuple es x1 pos) (tDx X.w (.tuple ds)) :=
  PE.imp (pe_tup h) fun _ _ _ ⟨G, e, k⟩ => ⟨G, e, fun vs G1 H1 n1 d1 => ⟨by rw [d1.len]; exact hl, fun p np => k _ _ _ (n1.trans (Nw.mk1 n1.gh np (.tup vs))) (.tup upd_same (d1.mono (Nw.mk1 n1.gh np (.tup vs)).gg))⟩⟩
theorem dx_lst {es : List Expr} {ds : List PyData} (h : PA X es (tDxs X.w ds)) (hl : ds.length ≤ sizeLine) : PE X (.List es pos) (tDx X.w (.list ds)) :=
  PE.imp (pe_lst h) fun _ _ _ ⟨G, e, k⟩ => ⟨G, e, fun vs G1 H1 n1 d1 => ⟨by rw [d1.len]; exact hl, fun p np => k _ _ _ (n1.trans (Nw.mk1 n1.gh np (.lst vs))) (.lst upd_same (d1.mono (Nw.mk1 n1.gh np (.lst vs)).gg))⟩⟩
theorem dx_dict0 : PE X (.Dict [] [] pos) (tDx X.w (.dict [])) :=
  PE.imp (pe_frz pe_dnewK) fun _ _ _ ⟨G, e, k⟩ => fun p np => ⟨p, .inl ⟨[], upd_same, fun od h => by
    rw [upd_upd] at h ⊢
    exact k _ _ _ (Nw.mk1 e np _) (.dct (df_leaf h upd_same upd_same fun x hx => nomatch hx) .nil .nil)⟩⟩
/-- an expression that gives new data of its own kind -/
theorem dx_of {e : Expr} {te : TE} {d : PyData} (h : PE X e te) (i : ∀ σ H Q, (∃ G, Same G H ∧ ∀ v G' H', Nw G H G' H' → Dx X.w G' v d → Q v H') → te σ H Q) : PE X e (tDx X.w d) := PE.imp h fun σ H Q q => i σ H Q q
end
/-! ### how large a thing is when shown -/
structure Sz (B k : Nat) (d : PyData) : Prop where
  sh : d.showable = true
  ln : d.shown.length ≤ B
  dp : d.depth ≤ k
theorem Sz.up {B B' k k' : Nat} {d : PyData} (h : Sz B k d) (h1 : B ≤ B') (h2 : k ≤ k') : Sz B' k' d := ⟨h.sh, by have := h.ln; omega, by have := h.dp; omega⟩
theorem Sz.shw {B k : Nat} {d : PyData} (h : Shw B k d) : Sz B k d := ⟨h.sh, h.ln, h.dp⟩
theorem sz_tup {B k n : Nat} {ds : List PyData} (h : ∀ d ∈ ds, Sz B k d) (hn : ds.length ≤ n) : Sz (n * (B + 2) + 3) (k + 1) (.tuple ds) := by
  refine ⟨by simp only [PyData.showable]; exact showAll_of ds fun d hd => (h d hd).sh, ?_, by simp only [PyData.depth]; have := depthAll_le k ds fun d hd => (h d hd).dp; omega⟩
  simp only [PyData.shown]
  rw [shownAll_map]
  have := tupleText_le B (ds.map PyData.shown) fun t ht => by
    obtain ⟨d, hd, rfl⟩ := List.mem_map.mp ht
    exact (h d hd).ln
  rw [List.length_map] at this
  have := Nat.mul_le_mul_right (B + 2) hn
  omega
theorem lstText_le (B : Nat) (ts : List Str) (h : ∀ t ∈ ts, t.length ≤ B) : (listText ts).length ≤ ts.length * (B + 2) + 3 := by
  have key : ∀ (ts : List Str) (k : Nat) (acc : Str), (∀ t ∈ ts, t.length ≤ B) → (textFrom k acc ts).length ≤ acc.length + ts.length * (B + 2) := by
    intro ts
    induction ts with
    | nil => intro k acc _; simp [textFrom]
    | cons t r ih =>
      intro k acc h
      have h1 := h t List.mem_cons_self
      have h2 := fun k acc => ih k acc fun x hx => h x (List.mem_cons_of_mem _ hx)
      unfold textFrom
      refine Nat.le_trans (h2 _ _) ?_
      have e2 : (((", " : String) : Str)).length = 2 := by decide
      have e0 : ((("" : String) : Str)).length = 0 := by decide
      rw [List.length_cons, Nat.succ_mul]
      split <;> simp only [lenap] <;> omega
  unfold listText
  have := key ts 0 "[" h
  have e1 : ((("[" : String) : Str)).length = 1 := by decide
  have e3 : ((("]" : String) : Str)).length = 1 := by decide
  rw [lenap]
  omega
theorem sz_lst {B k n : Nat} {ds : List PyData} (h : ∀ d ∈ ds, Sz B k d) (hn : ds.length ≤ n) : Sz (n * (B + 2) + 3) (k + 1) (.list ds) := by
  refine ⟨by simp only [PyData.showable]; exact showAll_of ds fun d hd => (h d hd).sh, ?_, by simp only [PyData.depth]; have := depthAll_le k ds fun d hd => (h d hd).dp; omega⟩
  simp only [PyData.shown]
  rw [shownAll_map]
  have := lstText_le B (ds.map PyData.shown) fun t ht => by
    obtain ⟨d, hd, rfl⟩ := List.mem_map.mp ht
    exact (h d hd).ln
  rw [List.length_map] at this
  have := Nat.mul_le_mul_right (B + 2) hn
  omega
theorem sz_dct {B k n : Nat} {ds : List (PyData × PyData)} (h : ∀ d ∈ ds, Sz B k d.1 ∧ Sz B k d.2) (hn : ds.length ≤ n) : Sz (n * (2 * B + 4) + 2) (k + 1) (.dict ds) := by
  refine ⟨by simp only [PyData.showable]; exact showKv_of _ fun d hd => ⟨(h d hd).1.sh, (h d hd).2.sh⟩, ?_, by simp only [PyData.depth]; have := depthKv_le k ds fun d hd => ⟨(h d hd).1.dp, (h d hd).2.dp⟩; omega⟩
  simp only [PyData.shown]
  rw [shownKv_map]
  have := dictText_le (2 * B + 2) (ds.map fun p => p.1.shown ++ ((": " : String) : Str) ++ p.2.shown) fun t ht => by
    obtain ⟨d, hd, rfl⟩ := List.mem_map.mp ht
    have h1 := (h d hd).1.ln
    have h2 := (h d hd).2.ln
    have e : (((": " : String) : Str)).length = 2 := by decide
    rw [lenap, lenap, e]; omega
  rw [List.length_map] at this
  have h2 := Nat.mul_le_mul_right (2 * B + 4) hn
  rw [show 2 * B + 2 + 2 = 2 * B + 4 by omega] at this
  omega
end My

set_option linter.all false
namespace My
open PySem PySem.Spec PyProof.Rows L2
/-! ### defs called where no repr is under way -/
theorem _root_.L2.Room.repr {k : Nat} {A : Around} (r : Room k A) : A.units + 111 < cLine := by have := r.un; omega
/-- a def that is called where no repr is under way -/
structure FnG (P : Program) (w : World) (K : PySem.W.Frag) (mg : Str → Option Value) (base : Heap) (k : Nat) (f : Addr) (fd : FuncData) (ps : List Str) (sp : Sp) : Prop where
  len : ∀ vs H Q E, sp vs H Q E → vs.length = ps.length
  run : ∀ (A : Around) (out : List Env) (s : Shared) (H : Hp) (args : Args) (us : List Value) (vs : List V) (Q : VK) (E : XK), A.guards = some [] → Room k A → Env0 P w K mg base A out s H → BindsTo s fd args (ps.zip us) → Vals vs us → sp vs H Q E →
    codeAny (model P w) A (.call (.ref f) args) (CR CX0 out P w H s Q E) s
theorem fng_ok {P : Program} {w : World} {K : PySem.W.Frag} {mg : Str → Option Value} {base : Heap} {x qual : Str} {st : Stmt} {f : Addr} {fd : FuncData} {N ps : List Str} {k : Nat} {sp : Sp} (F : Fun K x qual st f fd) (S : FnScope N ps (defScope st)) (len : ∀ vs H Q E, sp vs H Q E → vs.length = ps.length)
    (hbody : ∀ (cdv : Value) (A : Around) (out : List Env) (s : Shared) (H : Hp) (vs : List V) (Q : VK) (E : XK), A.guards = some [] → Room k (A.deeper (envOfC qual (defScope st) s.heap.objs.size f cdv)) → sp vs H Q E →
      ∃ t, PSs (cxOf CX0 P w K mg base N qual (defScope st) f cdv A out s H E).nox (defBody st) t ∧ t { nx := fun _ H' => Q .non H', rt := Q } (start N vs) H) : FnG P w K mg base (k + 1) f fd ps sp := by
  obtain ⟨oc, od, kV, doc, pm, an, cdv, ct, osl, rfl, lk, hcd⟩ := F.ex
  refine ⟨len, fun A out s H args us vs Q E hgd hr e0 hb r hsp => ?_⟩
  have hl := len _ _ _ _ hsp
  have KI : K.In s.heap := e0.mod.kin.keeps fun b o e => (e0.bs b o e).1
  have nl : s.heap.NoLimit := e0.mod.nolimit.keeps fun b o e => (e0.bs b o e).1
  have hk : ∀ y ∈ ps.zip us, (defScope st).names.lookup y.1 = some .local ∨ ((defScope st).names.lookup y.1 = some .cell ∧ ((cellsFrom (s.heap.objs.size + 1) (defScope st).names []).lookup y.1).isSome = true) := fun ⟨n, v⟩ hy => by
    rcases S.par n (List.of_mem_zip hy).1 with q | q
    · exact .inl q
    · exact .inr ⟨q, PySem.W.cellsFrom_some _ _ _ (.inl q)⟩
  refine codeAny_call_function hr.depth (KI _ _ lk) rfl S.co S.gen rfl (PySem.W.codeRec_of KI hcd) (hb _ _ _ _ ?_)
  refine wpAny_newFunctionEnv_cells S.kind hk fun env he s1 x => ?_
  subst he; refine ⟨nl.keeps x.toInCall.keep, codeAny_func ?_⟩
  obtain ⟨t, ht, hq⟩ := hbody cdv A out s H vs Q E hgd (hr.deeper _) hsp
  have I : Inv (cxOf CX0 P w K mg base N qual (defScope st) f cdv A out s H E) [] (start N vs) H s1 := inv_start S hr.hd e0 hl r x
  refine wpAny_mono (ht.nox.run [] s1 (start N vs) H _ I hq) (fun fl s' hs => ?_) fun e s' hs => hs
  have fin : ∀ {σ' : L2.St} {H' : Hp} {v : V} {u : Value}, Inv (cxOf CX0 P w K mg base N qual (defScope st) f cdv A out s H E) [] σ' H' s' → RelV v u → Q v H' → CE out P w H s Q u s' := fun {σ' H' v u} J rv q => ⟨v, H', J.os, J.bare, J.base, J.hok, rv, q⟩
  cases fl with
  | ret u => obtain ⟨v, σ', H', J, rv, q⟩ := hs; exact fin J rv q
  | next => obtain ⟨σ', H', J, q⟩ := hs; exact fin (v := V.non) (u := Value.none) J rfl q
  | brk => obtain ⟨_, _, _, q⟩ := hs; exact False.elim q
  | cont => obtain ⟨_, _, _, q⟩ := hs; exact False.elim q
section
variable {X : Cx} {k : Nat} {f : Addr} {fd : FuncData} {ps : List Str} {sp : Sp} {E : XK} {x : Str} {p pos : Pos} {e : Expr} {es : List Expr} {t : TA}
theorem pe_callG (F : FnG X.prog X.w X.K X.mg X.base k f fd ps sp) (hgd : X.A.guards = some []) (hr : Room k X.A) (hg : Gl X x) (hm : X.mg x = some (.ref f)) (hk : PySem.W.keepIn X.K (.ref f) = true) (hb : Binds X.K fd ps [])
    (ha : PA X (e :: es) t) (hdb : (x == ("__debug__" : Str)) = false := by decide) (he : starEach (e :: es) X.env = (false, eval e X.env) :: starEach es X.env := by rfl) (hpl : (backTo pos (starEach es X.env)).any (·.1) = false := by rfl) :
    PE X (.Call (.Name x p) (e :: es) [] pos) (tCall sp [] E0 t) := by
  refine ⟨fun pins s σ H Q I h => ?_⟩
  refine wpAny_Call_Name_kw (ld_glob I hg hm ?_ hdb)
  refine PySem.W.callWith_K (h₀ := X.base) I.ok.mod.kin hk (thn (ha.run pos pins s σ H _ I h) fun us s1 ⟨vs, H1, I1, r, q⟩ => ⟨I1.kIn, ?_⟩) he hpl
  have r2 : Vals (vs ++ []) (us ++ []) := r.append .nil
  have hl : (us ++ []).length = ps.length := by rw [← r2.length]; exact F.len _ _ _ _ q
  refine wpAny_call (codeAny_mono (F.run X.A X.stack s1 H1 ⟨us, []⟩ (us ++ []) (vs ++ []) Q E0 hgd hr I1.env0 (hb s1 us I1.kIn hl) r2 q) fun rr s' hq => ?_)
  cases rr with
  | error e => exact pass0 pins σ H1 s1 e s' I1 hq
  | ok fl =>
    cases fl with
    | ret u => exact I1.after hq
    | next => exact False.elim hq
    | brk => exact False.elim hq
    | cont => exact False.elim hq
end
abbrev sEqual : Stmt := topS 23
def spEqual (w : World) : Sp := fun vs H Q _ => ∃ (x y : V) (d e : PyData), vs = [x, y] ∧ Dx w H x d ∧ Dx w H y e ∧ (d.showable = true ∧ d.depth ≤ 100 ∧ d.shown.length ≤ sizeLine) ∧ (e.showable = true ∧ e.depth ≤ 100 ∧ e.shown.length ≤ sizeLine) ∧ Q (.bl (decide (d.shown = e.shown))) H
section
variable {P : Program} {w : World} {K : PySem.W.Frag} {mg : Str → Option Value} {base : Heap}
theorem scEqual : FnScope ["found", "due"] ["found", "due"] (defScope sEqual) := ⟨rfl, rfl, rfl, by decide +kernel, rfl, by decide +kernel, by decide +kernel⟩
theorem ok_equal {f : Addr} {fd : FuncData} (F : Fun K "_law_equal" "_law_equal" sEqual f fd) (mr : mg "repr" = none) : FnG P w K mg base 1 f fd ["found", "due"] (spEqual w) := by
  refine fng_ok F scEqual (fun vs H Q E h => ?_) (fun cdv A outer s H vs Q E hgd hr h => ?_)
  · obtain ⟨x, y, d, e, rfl, _⟩ := h
    rfl
  · obtain ⟨x, y, d, e, rfl, hd, he, ⟨d1, d2, d3⟩, ⟨e1, e2, e3⟩, k⟩ := h
    refine ⟨_, pss_one (ps_ret (pe_cmpR op_eq (pe_callB (cr_reprX hgd hr.repr) (by rfl) mr boot_repr (pa_cons (pv 0) pa_nil)) (pe_callB (cr_reprX hgd hr.repr) (by rfl) mr boot_repr (pa_cons (pv 1) pa_nil)) (nomark _))), ?_⟩
    refine ⟨_, rfl, x, d, rfl, hd, d1, d2, d3, _, rfl, y, e, rfl, he, e1, e2, e3, rfl, ?_⟩
    have e4 : decide (V.str d.shown = V.str e.shown) = decide (d.shown = e.shown) := by
      by_cases h : d.shown = e.shown
      · rw [h]; simp
      · rw [decide_eq_false h, decide_eq_false (fun z => h (V.str.inj z))]
    rw [e4]; exact k
end
end My

set_option linter.all false
namespace My
open PySem PySem.Spec PyProof.Rows L2
/-! ### drawn shared books -/
abbrev sShared : Stmt := topS 25
section
variable {X : Cx}
theorem call_lenTR : CallR X (.builtin "len") (fun xs H Q => ∃ (a : Addr) (kvs : List (List Key × V)), xs = [.ref a] ∧ Rd H a (.dT kvs) ∧ Q (.int ((kvs.length : Nat) : Int)) H) := by
  intro pins s σ H xs us Q I r h
  obtain ⟨a, kvs, rfl, ha, q⟩ := h
  obtain ⟨u, rfl, rx⟩ := vals1 r
  cases (show u = Value.ref a from rx)
  obtain ⟨z, hd, ys, rel, dd⟩ := dt_rd I.hok ha
  have hl : kvs.length = ys.length := Paired.length rel
  refine call_len_dictH hd dd (by rw [sizeLine_eq] at z; omega) ?_
  rw [← hl]
  exact ⟨.int ((kvs.length : Nat) : Int), H, I.tok _, ⟨_, rfl⟩, q⟩
end
/-! tuples stay -/
def TupG (H : Hp) : Hp := fun a => match H a with | some (.tup ys) => some (.tup ys) | _ => none
def KeepT (H H' : Hp) : Prop := ∀ a ys, H a = some (.tup ys) → H' a = some (.tup ys)
theorem tupG_at {H : Hp} {a : Addr} {ys : List V} (h : H a = some (.tup ys)) : TupG H a = some (.tup ys) := by unfold TupG; rw [h]
theorem tupG_of {H : Hp} {a : Addr} {o : HO} (h : TupG H a = some o) : ∃ ys, o = .tup ys ∧ H a = some (.tup ys) := by
  unfold TupG at h
  cases e : H a with
  | none => rw [e] at h; cases h
  | some u =>
    rw [e] at h
    cases u with
    | tup ys => cases h; exact ⟨ys, rfl, rfl⟩
    | _ => cases h
theorem KeepT.g {H H' : Hp} (k : KeepT H H') : Same (TupG H) (TupG H') := fun a o h => by
  obtain ⟨ys, rfl, e⟩ := tupG_of h
  exact tupG_at (k a ys e)
theorem tupG_sub {H : Hp} : Same (TupG H) H := fun a o h => by
  obtain ⟨ys, rfl, e⟩ := tupG_of h
  exact e
theorem KeepT.of {H H' : Hp} (e : Same H H') : KeepT H H' := fun a ys h => e _ _ h
theorem KeepT.but {p c : Addr} {t : Nat} {H H' : Hp} (P : PenD H p c t) (e : But p H H') : KeepT H H' := fun a ys h => e _ _ (fun z => by
  obtain ⟨cells, x, y, w, g, _⟩ := P.ex
  rw [z, g] at h; cases h) h
theorem KeepT.trans {H H1 H2 : Hp} (a : KeepT H H1) (b : KeepT H1 H2) : KeepT H H2 := fun c ys h => b c ys (a c ys h)
theorem KeepT.upd {H : Hp} {a : Addr} {o : HO} (n : ∀ ys, H a ≠ some (.tup ys)) : KeepT H (upd H a o) := fun c ys h => by
  rw [upd_ne (fun z => n ys (by rw [← z]; exact h))]; exact h
/-! a table from spots to parts -/
abbrev Spot := Int × Str
def tkv (M : List (Spot × Int)) : List (List Key × V) := M.map fun e => (pk e.1, V.int e.2)
def putM (M : List (Spot × Int)) (q : Spot) (v : Int) : List (Spot × Int) := if q ∈ M.map (·.1) then M.map (fun e => if e.1 = q then (e.1, v) else e) else M ++ [(q, v)]
def getM (M : List (Spot × Int)) (q : Spot) : Option Int := (M.find? fun e => decide (e.1 = q)).map (·.2)
theorem pk_inj {q r : Spot} (h : pk q = pk r) : q = r := by
  unfold pk at h
  injection h with h1 h2
  injection h2 with h2 _
  cases q; cases r
  injection h1 with h1
  injection h2 with h2
  simp_all
theorem any_tk {M : List (Spot × Int)} {q : Spot} : ((tkv M).any fun kv => decide (kv.1 = pk q)) = decide (q ∈ M.map (·.1)) := by
  unfold tkv
  rw [List.any_map]
  induction M with
  | nil => rfl
  | cons e r ih =>
    rw [List.any_cons, ih, List.map_cons]
    by_cases h : e.1 = q
    · subst h; simp
    · have h' : ¬ pk e.1 = pk q := fun z => h (pk_inj z)
      have h2 : ¬ q = e.1 := fun z => h z.symm
      simp [h', h2]
theorem put_tk {M : List (Spot × Int)} {q : Spot} {v : Int} : putK (tkv M) (pk q) (.int v) = tkv (putM M q v) := by
  unfold putK putM
  rw [any_tk]
  by_cases h : q ∈ M.map (·.1)
  · rw [if_pos (decide_eq_true h), if_pos h]
    unfold tkv
    rw [List.map_map, List.map_map]
    refine List.map_congr_left fun e _ => ?_
    by_cases c : e.1 = q
    · simp [c]
    · have c' : ¬ pk e.1 = pk q := fun z => c (pk_inj z)
      simp [c, c']
  · rw [if_neg (by rw [decide_eq_false h]; exact Bool.false_ne_true), if_neg h]
    unfold tkv
    rw [List.map_append]; rfl
theorem val_tk {M : List (Spot × Int)} {q : Spot} : valV (tkv M) (pk q) = (getM M q).map V.int := by
  unfold valV getM tkv
  induction M with
  | nil => rfl
  | cons e r ih =>
    rw [List.map_cons, List.find?_cons, List.find?_cons]
    by_cases c : e.1 = q
    · simp [c]
    · have c' : ¬ pk e.1 = pk q := fun z => c (pk_inj z)
      simp only [c, c', decide_false]
      exact ih
def sumM (M : List (Spot × Int)) : Int := (M.map (·.2)).sum
structure PM (b : Int) (ns : List Str) (M : List (Spot × Int)) : Prop where
  nod : (M.map (·.1)).Nodup
  ok : ∀ e ∈ M, (0 ≤ e.1.1 ∧ e.1.1 < b ∧ e.1.2 ∈ ns) ∧ 0 < e.2
theorem getM_none {M : List (Spot × Int)} {q : Spot} (h : q ∉ M.map (·.1)) : getM M q = none := by
  unfold getM
  rw [List.find?_eq_none.mpr fun e he z => h (List.mem_map.mpr ⟨e, he, of_decide_eq_true z⟩)]; rfl
theorem getM_cons {e : Spot × Int} {r : List (Spot × Int)} {q : Spot} : getM (e :: r) q = if e.1 = q then some e.2 else getM r q := by
  unfold getM
  rw [List.find?_cons]
  by_cases c : e.1 = q
  · simp [c]
  · simp [c]
theorem getM_in {M : List (Spot × Int)} {q : Spot} (h : q ∈ M.map (·.1)) : ∃ v, getM M q = some v ∧ (q, v) ∈ M := by
  induction M with
  | nil => cases h
  | cons e r ih =>
    rw [getM_cons]
    by_cases c : e.1 = q
    · rw [if_pos c]; exact ⟨e.2, rfl, by rw [← c]; exact List.mem_cons_self⟩
    · rw [if_neg c]
      rw [List.map_cons] at h
      rcases List.mem_cons.mp h with h | h
      · exact absurd h.symm c
      · obtain ⟨v, h1, h2⟩ := ih h
        exact ⟨v, h1, List.mem_cons_of_mem _ h2⟩
theorem getM_mem {M : List (Spot × Int)} {e : Spot × Int} (nd : (M.map (·.1)).Nodup) (h : e ∈ M) : getM M e.1 = some e.2 := by
  induction M with
  | nil => cases h
  | cons x r ih =>
    rw [List.map_cons] at nd
    have nd' := List.nodup_cons.mp nd
    rw [getM_cons]
    rcases List.mem_cons.mp h with rfl | h
    · rw [if_pos rfl]
    · rw [if_neg (fun z => nd'.1 (by rw [z]; exact List.mem_map.mpr ⟨e, h, rfl⟩))]
      exact ih nd'.2 h
theorem putM_keys {M : List (Spot × Int)} {q : Spot} {v : Int} : (putM M q v).map (·.1) = if q ∈ M.map (·.1) then M.map (·.1) else M.map (·.1) ++ [q] := by
  unfold putM
  by_cases h : q ∈ M.map (·.1)
  · rw [if_pos h, if_pos h, List.map_map]
    refine List.map_congr_left fun e _ => ?_
    by_cases c : e.1 = q
    · simp [c]
    · simp [c]
  · rw [if_neg h, if_neg h, List.map_append]; rfl
theorem sum_modM {q : Spot} {v : Int} : ∀ {M : List (Spot × Int)}, (M.map (·.1)).Nodup → sumM (M.map fun e => if e.1 = q then (e.1, v) else e) = sumM M + (if q ∈ M.map (·.1) then v - (getM M q).getD 0 else 0)
  | [], _ => rfl
  | e :: r, nd => by
    rw [List.map_cons] at nd
    have nd' := List.nodup_cons.mp nd
    have ih := sum_modM (q := q) (v := v) nd'.2
    rw [getM_cons]
    show ((if e.1 = q then (e.1, v) else e).2 + sumM (r.map fun e => if e.1 = q then (e.1, v) else e)) = (e.2 + sumM r) + _
    rw [ih, List.map_cons]
    by_cases c : e.1 = q
    · have n : q ∉ r.map (·.1) := by rw [← c]; exact nd'.1
      rw [if_pos c, if_pos c, if_neg n, if_pos (by rw [c]; exact List.mem_cons_self)]
      show v + (sumM r + 0) = e.2 + sumM r + (v - e.2)
      omega
    · rw [if_neg c, if_neg c]
      by_cases n : q ∈ r.map (·.1)
      · rw [if_pos n, if_pos (List.mem_cons_of_mem _ n)]; omega
      · rw [if_neg n, if_neg (fun z => by
          rcases List.mem_cons.mp z with z | z
          · exact c z.symm
          · exact n z)]; omega
theorem PM.put {b : Int} {ns : List Str} {M : List (Spot × Int)} (P : PM b ns M) {q : Spot} (hq : 0 ≤ q.1 ∧ q.1 < b ∧ q.2 ∈ ns) {x : Int} (hx : 0 < x) :
    PM b ns (putM M q ((getM M q).getD 0 + x)) ∧ sumM (putM M q ((getM M q).getD 0 + x)) = sumM M + x ∧ (putM M q ((getM M q).getD 0 + x)).length ≤ M.length + 1 := by
  by_cases h : q ∈ M.map (·.1)
  · obtain ⟨v, hv, hm⟩ := getM_in h
    have v0 := (P.ok _ hm).2
    refine ⟨⟨by rw [putM_keys, if_pos h]; exact P.nod, fun e he => ?_⟩, ?_, ?_⟩
    · unfold putM at he
      rw [if_pos h] at he
      obtain ⟨d, hd, rfl⟩ := List.mem_map.mp he
      by_cases c : d.1 = q
      · rw [if_pos c]
        refine ⟨(P.ok d hd).1, ?_⟩
        rw [hv]
        show 0 < v + x
        have : 0 < v := v0
        omega
      · rw [if_neg c]; exact P.ok d hd
    · unfold putM
      rw [if_pos h, sum_modM P.nod, if_pos h]
      omega
    · unfold putM
      rw [if_pos h, List.length_map]; omega
  · rw [getM_none h]
    refine ⟨⟨by rw [putM_keys, if_neg h]; exact List.nodup_append.mpr ⟨P.nod, by simp, fun a ha b hb e => h (by rw [← List.mem_singleton.mp hb, ← e]; exact ha)⟩, fun e he => ?_⟩, ?_, ?_⟩
    · unfold putM at he
      rw [if_neg h] at he
      rcases List.mem_append.mp he with he | he
      · exact P.ok e he
      · rw [List.mem_singleton.mp he]
        exact ⟨hq, by show 0 < (0 : Int) + x; omega⟩
    · unfold putM sumM
      rw [if_neg h, List.map_append, List.sum_append]
      show _ + (0 + x + 0) = _
      omega
    · unfold putM
      rw [if_neg h, List.length_append]; exact Nat.le_refl _
/-! shares in lowest terms -/
def mkT (W : Int) (e : Spot × Int) : PyData := .tuple [.int e.1.1, .str e.1.2, .tuple [.int (e.2 / gL e.2 W), .int (W / gL e.2 W)]]
/-- a row of a shared book, by the shares that it was made of -/
structure SRow (b : Int) (ns : List Str) (row : List PyData) : Prop where
  ex : ∃ (S : List (Spot × Int)) (W : Int), row = S.map (mkT W) ∧ S.Nodup ∧ (∀ e ∈ S, (0 ≤ e.1.1 ∧ e.1.1 < b ∧ e.1.2 ∈ ns) ∧ 0 < e.2 ∧ e.2 ≤ W) ∧ sumM S = W ∧ 0 < W ∧ W ≤ 30 ∧ S.length ≤ 12 ∧ S ≠ [] ∧ row.Pairwise fun x y => PySem.W.dataLt y x = false
theorem mkT_alike (W : Int) (e f : Spot × Int) : PySem.W.alike (mkT W e) (mkT W f) = true := by
  simp [mkT, PySem.W.alike, PySem.W.alikeAll]
end My

set_option linter.all false
namespace My
open PySem PySem.Spec PyProof.Rows L2
theorem keepT2 {p U : Addr} {H H' : Hp} (hp : ∀ ys, H p ≠ some (.tup ys)) (hU : ∀ ys, H U ≠ some (.tup ys)) (k : ∀ a o, a ≠ p → a ≠ U → H a = some o → H' a = some o) : KeepT H H' := fun a ys h => k a _ (fun z => hp ys (by rw [← z]; exact h)) (fun z => hU ys (by rw [← z]; exact h)) h
theorem penD_nt {H : Hp} {p c : Addr} {t : Nat} (P : PenD H p c t) : ∀ ys, H p ≠ some (.tup ys) := fun ys h => by
  obtain ⟨cells, x, y, z, g, _⟩ := P.ex
  rw [g] at h; cases h
theorem sum_rng : ∀ {l : List Int}, (∀ y ∈ l, 1 ≤ y ∧ y ≤ 5) → (l.length : Int) ≤ l.sum ∧ l.sum ≤ 5 * (l.length : Int)
  | [], _ => ⟨by simp, by simp⟩
  | x :: r, h => by
    have ih := sum_rng (l := r) fun y hy => h y (List.mem_cons_of_mem _ hy)
    have hx := h x List.mem_cons_self
    rw [List.sum_cons, List.length_cons, Int.natCast_add]
    constructor <;> (simp only [Int.natCast_one]; omega)
theorem sum_perm {a b : List Int} (h : a.Perm b) : a.sum = b.sum := by
  induction h with
  | nil => rfl
  | cons x _ ih => rw [List.sum_cons, List.sum_cons, ih]
  | swap x y l => rw [List.sum_cons, List.sum_cons, List.sum_cons, List.sum_cons]; omega
  | trans _ _ i j => exact i.trans j
theorem sumM_app (A B : List (Spot × Int)) : sumM (A ++ B) = sumM A + sumM B := by unfold sumM; rw [List.map_append, List.sum_append]
theorem le_sumM : ∀ {M : List (Spot × Int)}, (∀ e ∈ M, 0 < e.2) → 0 ≤ sumM M ∧ ∀ e ∈ M, e.2 ≤ sumM M
  | [], _ => ⟨Int.le_refl 0, fun _ h => nomatch h⟩
  | x :: r, h => by
    obtain ⟨i1, i2⟩ := le_sumM (M := r) fun y hy => h y (List.mem_cons_of_mem _ hy)
    have hx := h x List.mem_cons_self
    have e : sumM (x :: r) = x.2 + sumM r := rfl
    refine ⟨by omega, fun y hy => ?_⟩
    rcases List.mem_cons.mp hy with rfl | hy
    · omega
    · have := i2 y hy; omega
/-- the shares of the first entries -/
structure SF (Mj : List (Spot × Int)) (W : Int) (S : List (Spot × Int)) : Prop where
  nod : S.Nodup
  ok : ∀ e ∈ S, e.1 ∈ Mj.map (·.1) ∧ 0 < e.2 ∧ e.2 ≤ W
  sum : sumM S = sumM Mj
  len : S.length ≤ 2 * Mj.length
theorem SF.one {M S : List (Spot × Int)} {W : Int} {j : Nat} {e : Spot × Int} {sh : List Int} (h : SF (M.take j) W S) (nd : (M.map (·.1)).Nodup) (he : M[j]? = some e) (e0 : 0 < e.2) (eW : e.2 ≤ W) (hs : sh = [e.2] ∨ (sh = [1, e.2 - 1] ∧ 2 < e.2)) : SF (M.take (j + 1)) W (S ++ sh.map fun x => (e.1, x)) := by
  have hj : j < M.length := (List.getElem?_eq_some_iff.mp he).1
  have etk : M.take (j + 1) = M.take j ++ [e] := by rw [List.take_add_one, he]; rfl
  have new : e.1 ∉ (M.take j).map (·.1) := by
    intro z
    rw [List.map_take] at z
    obtain ⟨m, hm⟩ := List.mem_iff_getElem?.mp z
    rw [List.getElem?_take] at hm
    by_cases c : m < j
    · rw [if_pos c] at hm
      have h2 : (M.map (·.1))[j]? = some e.1 := by rw [List.getElem?_map, he]; rfl
      have := (List.getElem?_inj (by rw [List.length_map]; omega) nd).mp (hm.trans h2.symm)
      omega
    · rw [if_neg c] at hm; cases hm
  have shp : (∀ x ∈ sh, 0 < x ∧ x ≤ W) ∧ sh.sum = e.2 ∧ sh.Nodup ∧ sh.length ≤ 2 := by
    rcases hs with rfl | ⟨rfl, h2⟩
    · exact ⟨fun x hx => by rw [List.mem_singleton.mp hx]; exact ⟨e0, eW⟩, by simp, by simp, by simp⟩
    · refine ⟨fun x hx => ?_, by simp; omega, by simp; omega, by simp⟩
      simp only [List.mem_cons, List.not_mem_nil, or_false] at hx
      rcases hx with rfl | rfl <;> omega
  obtain ⟨p1, p2, p3, p4⟩ := shp
  have sm : sumM (sh.map fun x => (e.1, x)) = sh.sum := by
    unfold sumM
    rw [List.map_map]
    have : (fun x : Int => ((e.1, x) : Spot × Int).2) = id := rfl
    show (sh.map fun x : Int => ((e.1, x) : Spot × Int).2).sum = _
    rw [this, List.map_id]
  rw [etk]
  refine ⟨?_, fun d hd => ?_, by rw [sumM_app, sumM_app, h.sum, sm, p2]; show _ = _ + (e.2 + 0); omega, by rw [List.length_append, List.length_append, List.length_map]; have := h.len; show _ ≤ 2 * (_ + 1); omega⟩
  · refine List.nodup_append.mpr ⟨h.nod, List.Pairwise.map _ (fun a b ne z => ne (by injection z)) p3, fun a ha b hb z => ?_⟩
    obtain ⟨x, _, rfl⟩ := List.mem_map.mp hb
    rw [z] at ha
    exact new (h.ok _ ha).1
  · rw [List.map_append]
    rcases List.mem_append.mp hd with hd | hd
    · exact ⟨List.mem_append_left _ (h.ok d hd).1, (h.ok d hd).2⟩
    · obtain ⟨x, hx, rfl⟩ := List.mem_map.mp hd
      exact ⟨List.mem_append_right _ (by simp), p1 x hx⟩
theorem dxall_mem {w : World} {G : Hp} : ∀ {zs : List (V × PyData)}, (∀ z ∈ zs, Dx w G z.1 z.2) → DxAll w G (zs.map (·.1)) (zs.map (·.2))
  | [], _ => .nil
  | z :: zs, h => .cons (h z List.mem_cons_self) (dxall_mem fun y hy => h y (List.mem_cons_of_mem _ hy))
theorem le_trans' {β : Type} (k : β → PyData) (a b c : β) (h1 : PySem.W.dataLe false k a b = true) (h2 : PySem.W.dataLe false k b c = true) : PySem.W.dataLe false k a c = true := by
  rw [PySem.W.dataLe_eq] at h1 h2 ⊢
  have g1 : PySem.W.dataLt (k b) (k a) = false := by simpa using h1
  have g2 : PySem.W.dataLt (k c) (k b) = false := by simpa using h2
  have : PySem.W.dataLt (k c) (k a) = false := KeyOrd.kle_trans (O := listOrd itemOrd) g1 g2
  show (!PySem.W.dataLt (k c) (k a)) = true
  rw [this]; rfl
theorem le_total' {β : Type} (k : β → PyData) (a b : β) : (PySem.W.dataLe false k a b || PySem.W.dataLe false k b a) = true := by
  rw [PySem.W.dataLe_eq]
  show (!PySem.W.dataLt (k b) (k a) || !PySem.W.dataLt (k a) (k b)) = true
  cases h : PySem.W.dataLt (k b) (k a) with
  | false => rfl
  | true =>
    have : PySem.W.dataLt (k a) (k b) = false := KeyOrd.klt_asymm (O := listOrd itemOrd) h
    rw [this]; rfl
def spShared (w : World) : Sp := fun vs H Q _ => ∃ (p c : Addr) (b : Int) (many most t : Nat), vs = [.ref p, .int b, .int many, .int most] ∧ 2 ≤ b ∧ b ≤ 10 ∧ 1 ≤ many ∧ many ≤ 8 ∧ 1 ≤ most ∧ most ≤ 6 ∧ PenD H p c t ∧ t + 600 < 2 ^ 29 ∧
  ∀ (bk rr : Addr) (ns : List Str) (rows : List (List PyData)) (kvs : List (Key × V)) (H' : Hp), But p H H' → PenD H' p c (t + 500) → H rr = none → H' bk = some (.tup [.int b, .ref rr]) → H' rr = some (.dK kvs) → kvs.map (·.1) = ns.map Sum.inr → NamesOk ns many →
    DxAll w (TupG H') (kvs.map (·.2)) (rows.map PyData.tuple) → rows.length = ns.length → (∀ row ∈ rows, SRow b ns row) → Q (.ref bk) H'
structure TxS (mg : Str → Option Value) : Prop where
  len : mg "len" = none
  range : mg "range" = none
  tuple : mg "tuple" = none
  sorted : mg "sorted" = none
  sum : mg "sum" = none
section
variable {P : Program} {w : World} {K : PySem.W.Frag} {mg : Str → Option Value} {base : Heap}
theorem scShared : FnScope ["pen", "base", "many", "most", "names", "rows", "name", "parts", "triples", "part", "spot", "whole", "told", "shares", "k", "share"] ["pen", "base", "many", "most"] (defScope sShared) := ⟨rfl, rfl, rfl, by decide +kernel, rfl, by decide +kernel, by decide +kernel⟩
theorem ok_shared {f fT fOn fSn fLo : Addr} {fd fdT fdOn fdSn fdLo : FuncData} (F : Fun K "_law_shared" "_law_shared" sShared f fd) (T : TxS mg)
    (FT : Fun K "_law_draw" "_law_draw" sDraw fT fdT) (GT : FnOk P w K mg base CX0 2 fT fdT ["pen", "many"] spDraw) (bT : Binds K fdT ["pen", "many"] []) (gT : mg "_law_draw" = some (.ref fT))
    (FOn : Fun K "_law_one_of" "_law_one_of" sOneOf fOn fdOn) (GOn : FnOk P w K mg base CX0 3 fOn fdOn ["pen", "some"] spOneOf) (bOn : Binds K fdOn ["pen", "some"] []) (gOn : mg "_law_one_of" = some (.ref fOn))
    (FSn : Fun K "_law_some_names" "_law_some_names" sSome fSn fdSn) (GSn : FnOk P w K mg base CX0 4 fSn fdSn ["pen", "many"] spSome) (bSn : Binds K fdSn ["pen", "many"] []) (gSn : mg "_law_some_names" = some (.ref fSn))
    (FLo : Fun K "_law_lowest" "_law_lowest" sLow fLo fdLo) (GLo : FnOk P w K mg base CX0 1 fLo fdLo ["top", "below"] spLow) (bLo : Binds K fdLo ["top", "below"] []) (gLo : mg "_law_lowest" = some (.ref fLo)) :
    FnOk P w K mg base CX0 5 f fd ["pen", "base", "many", "most"] (spShared w) := by
  refine F.ok scShared (fun vs H Q E h => ?_) (fun cdv A outer s H vs Q E hr h => ?_)
  · obtain ⟨p, c, b, many, most, t, rfl, _⟩ := h
    rfl
  · obtain ⟨p, c, b, many, most, t, rfl, b0, b1, my1, my8, mo1, mo6, C, tt, k⟩ := h
    have hr4 := hr
    have hr3 : Room 3 _ := hr.mono (by decide)
    have hr2 : Room 2 _ := hr.mono (by decide)
    have hr1 : Room 1 _ := hr.mono (by decide)
    have hu1 := Nat.lt_trans (Nat.add_lt_add_left (show 1 < 64 by decide) _) hr.units
    refine ⟨_, (pss_cons (ps_set (i := 4) scShared.nd rfl (Or.inl rfl) (pe_call GSn hr4 (by rfl) gSn FSn.kp bSn .nil pass0 (pa_cons (pv 0) (pa_cons (pv 2) pa_nil))))
      (pss_cons (ps_set (i := 5) scShared.nd rfl (Or.inl rfl) pe_dnewK)
      (pss_cons (ps_for PassesOwn.never rfl (pi_list (pv 4)) (pg_name (i := 6) scShared.nd rfl (Or.inl rfl)) (pss_cons (ps_setLc (i := 7) (own := [("k", 14)]) (g := gName 14) (tt := tYes) rfl scShared.nd rfl (by rfl) (sw_true (by rfl) (by rfl) (by rfl) (by rfl)) (pi_range1 (by rfl) T.range (pa_cons (pe_op op_add pe_int (pe_call GT hr2 (by rfl) gT FT.kp bT .nil pass0 (pa_cons (pv 0) (pa_cons (pv 3) pa_nil)))) pa_nil)) (blkOk_by (N := ["pen", "base", "many", "most", "names", "rows", "name", "parts", "triples", "part", "spot", "whole", "told", "shares", "k", "share"]) (sc := defScope sShared) (by decide +kernel)) (fun _ _ _ _ _ => (pg_name (i := 14) scShared.nd rfl (Or.inl rfl))) (fun _ _ _ _ _ => pts_nil) (fun _ _ _ _ _ => (pe_op op_add pe_int (pe_call GT hr2 (by rfl) gT FT.kp bT .nil pass0 (pa_cons (pv 0) (pa_cons pe_int pa_nil))))))
      (pss_cons (ps_set (i := 8) scShared.nd rfl (Or.inl rfl) pe_dnewT)
      (pss_cons (ps_for PassesOwn.never rfl (pi_list (pv 7)) (pg_name (i := 9) scShared.nd rfl (Or.inl rfl)) (pss_cons (ps_set (i := 10) scShared.nd rfl (Or.inr rfl) (pe_tupS (pa_cons (pe_call GT hr2 (by rfl) gT FT.kp bT .nil pass0 (pa_cons (pv 0) (pa_cons (pv 1) pa_nil))) (pa_cons (pe_call GOn hr3 (by rfl) gOn FOn.kp bOn .nil pass0 (pa_cons (pv 0) (pa_cons (pv 4) pa_nil))) pa_nil))))
      (pss_one (ps_dput hu1 (pv 8) (pv 10) (pe_op op_add (pe_dget2 hu1 (pv 8) (pv 10) pe_int ⟨by rfl, by rfl, by rfl, by rfl⟩) (pv 9)) rfl))))
      (pss_cons (ps_set (i := 11) scShared.nd rfl (Or.inr rfl) (pe_callB (cr_sum rfl) (by rfl) T.sum boot_sum (pa_cons (pv 7) pa_nil)))
      (pss_cons (ps_set (i := 12) scShared.nd rfl (Or.inl rfl) (pe_lst pa_nil))
      (pss_cons (ps_lock (ps_for PassesOwn.never rfl (pi_keys (pv 8)) (pg_name (i := 10) scShared.nd rfl (Or.inr rfl)) (pss_cons (ps_set (i := 9) scShared.nd rfl (Or.inl rfl) (pe_dget hu1 (pv 8) (pv 10) (fun _ _ => rfl)))
      (C8.pss_cut (ps_set (i := 13) scShared.nd rfl (Or.inl rfl) (pe_ifExp (PW.pt (pw_and (pt_cmpR op_gt (pv 9) pe_int (nomark _)) (pw_and (pt_cmpR op_lt (pe_callB call_lenTR (by rfl) T.len PySem.boot_len (pa_cons (pv 8) pa_nil)) pe_int (nomark _)) (pw_and1 (pt_cmpR op_eq (pe_call GT hr2 (by rfl) gT FT.kp bT .nil pass0 (pa_cons (pv 0) (pa_cons pe_int pa_nil))) pe_int (nomark _)))))) (pe_lstS (pa_cons pe_int (pa_cons (pe_op op_sub (pv 9) pe_int) pa_nil))) (pe_lstS (pa_cons (pv 9) pa_nil))))
      (pss_one (ps_set (i := 12) scShared.nd rfl (Or.inl rfl) (pe_op op_cat (pv 12) (pe_lc (own := [("share", 15)]) (g := gName 15) (tt := tYes) rfl scShared.nd (pi_list (pv 13)) (blkOk_by (N := ["pen", "base", "many", "most", "names", "rows", "name", "parts", "triples", "part", "spot", "whole", "told", "shares", "k", "share"]) (sc := defScope sShared) (by decide +kernel)) (fun _ _ _ _ _ => (pg_name (i := 15) scShared.nd rfl (Or.inl rfl))) (fun _ _ _ _ _ => pts_nil) (fun _ _ _ _ _ => (pe_op (show OpR _ _ rCatG from op_catG) (pv 10) (pe_tupS (pa_cons (pe_call GLo hr1 (by rfl) gLo FLo.kp bLo .nil pass0 (pa_cons (pv 15) (pa_cons (pv 11) pa_nil))) pa_nil))))))))))))
      (pss_one (ps_dput hu1 (pv 5) (pv 6) (pe_callTy call_tuple_of (by rfl) T.tuple boot_tuple (pa_cons (pe_callB (cr_sortedX hr.units) (by rfl) T.sorted boot_sorted (pa_cons (pv 12) pa_nil)) pa_nil)) rfl)))))))))
      (pss_one (ps_ret (pe_tupS (pa_cons (pv 1) (pa_cons (pv 5) pa_nil)))))))), ?_⟩
    refine ⟨_, rfl, _, rfl, p, c, many, t, rfl, my8, C, by omega, fun ln ns H1 nok nln b1' C1 hln => ?_⟩
    have lnp : ln ≠ p := C.not nln
    have n0 : 0 < ns.length := by rw [nok.len]; exact my1
    intro r nr
    have rp : r ≠ p := C1.not nr
    have rc : r ≠ c := fun z => C1.at_c (by rw [← z]; exact nr)
    have rl : r ≠ ln := fun z => by rw [← z, nr] at hln; cases hln
    have s0 : Same H1 (upd H1 r (.dK [])) := Same.upd nr
    refine ⟨_, rfl, ln, rfl, ⟨_, SqL.of (s0 _ _ hln)⟩, for_it (walk_list (K := K) (a := ln) (xs := ns.map V.str)) (fun i σ H2 => (∃ y6 y7 y8 y9 y10 y11 y12 y13 : Option V, σ = [some (.ref p), some (.int b), some (.int many), some (.int most), some (.ref ln), some (.ref r), y6, y7, y8, y9, y10, y11, y12, y13, none, none]) ∧ i ≤ ns.length ∧ PenD H2 p c (t + 100 + 40 * i) ∧
      (∀ a o, a ≠ p → a ≠ r → H1 a = some o → H2 a = some o) ∧ ∃ (kvs : List (Key × V)) (rows : List (List PyData)), H2 r = some (.dK kvs) ∧ kvs.map (·.1) = (ns.take i).map Sum.inr ∧ DxAll w (TupG H2) (kvs.map (·.2)) (rows.map PyData.tuple) ∧ rows.length = i ∧ ∀ row ∈ rows, SRow b ns row) ?_ ?_ ?_ ?_⟩
    · exact ⟨⟨_, _, _, _, _, _, _, _, rfl⟩, Nat.zero_le _, C1.agree rp rc (fun a ha => upd_ne ha) (by omega), fun a o _ ha e => by rw [upd_ne ha]; exact e, [], [], upd_same, rfl, .nil, rfl, fun _ h => nomatch h⟩
    · rintro i σ H2 _ ⟨_, _, _, kp, _⟩
      exact SqL.of (kp _ _ lnp rl.symm hln)
    · rintro i x σ H2 H3 hi ⟨⟨y6, y7, y8, y9, y10, y11, y12, y13, rfl⟩, hin, C2, kp, kvs, rows, hrk, hks, hdx, hrl, hrow⟩ ⟨rfl, hx⟩
      rw [List.length_map] at hi
      have nl8 : ns.length ≤ 8 := by rw [nok.len]; exact my8
      obtain ⟨nm, hnm, rfl⟩ : ∃ nm, ns[i]? = some nm ∧ x = .str nm := by
        rw [List.getElem?_map, List.getElem?_eq_getElem hi] at hx
        exact ⟨ns[i], List.getElem?_eq_getElem hi, (Option.some.inj hx).symm⟩
      -- parts
      refine ⟨_, rfl, _, rfl, p, c, (most : Int), _, rfl, by omega, small_int (by omega) (by omega), C2, by omega, fun d H4 d0 d1 b4 C4 => ⟨_, _, rfl, rfl, _, rfl, by omega, by omega, fun D nD => ?_⟩⟩
      have Dp : D ≠ p := C4.not nD
      have Dc : D ≠ c := fun z => C4.at_c (by rw [← z]; exact nD)
      refine lc_it (walk_range (lo := 0) (n := (1 + d).toNat)) (fun j Hi => PenD Hi p c (t + 101 + 40 * i + j) ∧ j ≤ 6 ∧ (∀ a o, a ≠ p → H4 a = some o → Hi a = some o) ∧ ∃ l : List Int, l.length = j ∧ (∀ y ∈ l, 1 ≤ y ∧ y ≤ 5) ∧ Hi D = some (.lst (l.map V.int)))
        ⟨C4.agree Dp Dc (fun a ha => upd_ne ha) (by omega), by omega, (fun a o _ e => by rw [upd_ne (ne_of_none e nD)]; exact e), [], rfl, (fun _ h => nomatch h), upd_same⟩ (fun _ _ _ _ => trivial) ?_ ?_
      · rintro j x Hi Hj hj ⟨C5, _, b5, l, ll, hl, hD⟩ ⟨rfl, hx⟩
        refine ⟨rfl, ?_⟩
        refine ⟨_, rfl, p, c, 5, _, rfl, by decide, by decide, C5, by omega, fun z H6 z0 z1 b6 C6 => ⟨_, _, rfl, rfl, ?_⟩⟩
        refine ⟨_, b6 _ _ Dp hD, by rw [List.length_map, sizeLine_eq]; omega, C6.agree Dp Dc (fun a ha => upd_ne ha) (by omega), by omega, fun a o ha e => by rw [upd_ne (ne_of_none e nD)]; exact b6 _ _ ha (b5 _ _ ha e), l ++ [1 + z], by rw [List.length_append, ll]; rfl, fun y hy => ?_, by rw [upd_same, List.map_append]; rfl⟩
        rcases List.mem_append.mp hy with h | h
        · exact hl y h
        · rw [List.mem_singleton.mp h]; omega
      rintro H5 ⟨C5, _, b5, l, ll, hl, hD5⟩
      have l1 : 1 ≤ l.length := by omega
      have l6 : l.length ≤ 6 := by omega
      have b25 : ∀ a o, a ≠ p → H3 a = some o → H5 a = some o := fun a o ha e => b5 _ _ ha (b4 _ _ ha e)
      have hr5 := b25 _ _ rp hrk
      have hln5 := b25 _ _ lnp (kp _ _ lnp rl.symm hln)
      have Dr : D ≠ r := (ne_of_none (b4 _ _ rp hrk) nD).symm
      -- triples
      intro U nU
      have Up : U ≠ p := C5.not nU
      have Uc : U ≠ c := fun z => C5.at_c (by rw [← z]; exact nU)
      have Ur : U ≠ r := (ne_of_none hr5 nU).symm
      have Uln : U ≠ ln := (ne_of_none hln5 nU).symm
      have UD : U ≠ D := (ne_of_none hD5 nU).symm
      refine ⟨_, rfl, D, rfl, ⟨_, SqL.of ((Same.upd nU) _ _ hD5)⟩, for_it (walk_list (K := K) (a := D) (xs := l.map V.int)) (fun j σ Hj => (∃ x9 x10 : Option V, σ = [some (.ref p), some (.int b), some (.int many), some (.int most), some (.ref ln), some (.ref r), some (.str nm), some (.ref D), some (.ref U), x9, x10, y11, y12, y13, none, none]) ∧ j ≤ 6 ∧ PenD Hj p c (t + 110 + 40 * i + 2 * j) ∧
        (∀ a o, a ≠ p → a ≠ U → H5 a = some o → Hj a = some o) ∧ ∃ M : List (Spot × Int), Hj U = some (.dT (tkv M)) ∧ PM b ns M ∧ sumM M = (l.take j).sum ∧ M.length ≤ j) ?_ ?_ ?_ ?_⟩
      · exact ⟨⟨_, _, rfl⟩, by omega, C5.agree Up Uc (fun a ha => upd_ne ha) (by omega), fun a o _ ha e => by rw [upd_ne ha]; exact e, [], upd_same, ⟨List.nodup_nil, fun _ h => nomatch h⟩, rfl, Nat.le_refl _⟩
      · rintro j σ Hj _ ⟨_, _, _, kj, _⟩
        exact SqL.of (kj _ _ Dp UD.symm hD5)
      · rintro j x σ Hj Hj' hj ⟨⟨x9, x10, rfl⟩, _, Cj, kj, M, hM, PMM, sM, lM⟩ ⟨rfl, hx⟩
        rw [List.length_map] at hj
        obtain ⟨pt, hpt, rfl⟩ : ∃ pt, l[j]? = some pt ∧ x = .int pt := by
          rw [List.getElem?_map, List.getElem?_eq_getElem hj] at hx
          exact ⟨l[j], List.getElem?_eq_getElem hj, (Option.some.inj hx).symm⟩
        have hlnj := kj _ _ lnp Uln.symm hln5
        refine ⟨_, rfl, _, rfl, p, c, b, _, rfl, by omega, small_int (by omega) (by omega), Cj, by omega, fun g H6 g0 g1 b6 C6 => ?_⟩
        have hln6 := b6 _ _ lnp hlnj
        refine ⟨_, rfl, _, rfl, p, c, _, .ref ln, rfl, C6, by omega, .inl ⟨ln, _, rfl, lnp, hln6, (fun z => by have h := congrArg List.length z; rw [List.length_map, List.length_nil] at h; omega), by rw [List.length_map]; omega, fun v H7 vin b7 C7 => ?_⟩⟩
        obtain ⟨x, xin, rfl⟩ := List.mem_map.mp vin
        refine ⟨(by show 2 ≤ sizeLine; decide), fun sq H8 s8 hsq => ?_⟩
        have hU8 := s8 _ _ (b7 _ _ Up (b6 _ _ Up hM))
        have ev : ((valV (tkv M) (pk (g, x))).getD (.int 0)) = .int ((getM M (g, x)).getD 0) := by rw [val_tk]; cases getM M (g, x) <;> rfl
        refine ⟨_, rfl, U, rfl, .inr ⟨_, .inl hU8⟩, _, rfl, _, DGet.t (k := pk (g, x)) hU8 hsq, _, rfl, _, _, ev, rfl, _, rfl, _, rfl, U, _, rfl, DPut.t (k := pk (g, x)) hU8 hsq (by unfold tkv; rw [List.length_map, sizeLine_eq]; omega), ?_⟩
        rw [put_tk]
        have pq := PMM.put (q := (g, x)) ⟨g0, g1, xin⟩ (x := pt) (by have := (hl pt (List.mem_of_getElem? hpt)).1; omega)
        have ag : ∀ a, a ≠ U → upd H8 U (.dT (tkv (putM M (g, x) ((getM M (g, x)).getD 0 + pt)))) a = H8 a := fun a ha => upd_ne ha
        refine ⟨⟨_, _, rfl⟩, by omega, (C7.same s8 (Nat.le_refl _)).agree Up Uc ag (by omega), fun a o h1 h2 e => by rw [ag a h2]; exact s8 _ _ (b7 _ _ h1 (b6 _ _ h1 (kj a o h1 h2 e))), _, upd_same, pq.1, ?_, by have := pq.2.2; omega⟩
        rw [pq.2.1, sM, List.take_add_one, hpt, List.sum_append]; simp
      rintro σ H6 ⟨⟨x9, x10, rfl⟩, _, C6, k6, M, hM, PMM, sM, lM⟩
      rw [List.length_map] at sM lM C6
      rw [List.take_length] at sM
      have hD6 := k6 _ _ Dp UD.symm hD5
      -- whole, told
      refine ⟨_, rfl, D, l, rfl, SqL.of hD6, ?_⟩
      refine ⟨(by show 0 ≤ sizeLine; decide), fun t0 nt0 => ?_⟩
      generalize hW : l.sum = W at sM
      have WR := sum_rng hl
      rw [hW] at WR
      have W1 : 1 ≤ W := by omega
      have W30 : W ≤ 30 := by omega
      have s7 : Same H6 (upd H6 t0 (.lst [])) := Same.upd nt0
      have ht0 : (upd H6 t0 (.lst [])) t0 = some (.lst []) := upd_same
      have C7 := C6.same s7 (Nat.le_refl _)
      have t0p : t0 ≠ p := C6.not nt0
      have t0U : t0 ≠ U := (ne_of_none hM nt0).symm
      have hM7 := s7 _ _ hM
      have k7 : ∀ a o, a ≠ p → a ≠ U → H5 a = some o → (upd H6 t0 (.lst [])) a = some o := fun a o h1 h2 e => s7 _ _ (k6 a o h1 h2 e)
      generalize upd H6 t0 (.lst []) = H7 at s7 ht0 C7 hM7 k7
      have ml6 : M.length ≤ 6 := by omega
      refine ⟨U, .dT (tkv M), hM7, trivial, fun od => ?_⟩
      have agL : ∀ a, a ≠ U → upd H7 U (.frz od (.dT (tkv M))) a = H7 a := fun a ha => upd_ne ha
      refine ⟨_, rfl, U, od, rfl, .inr ⟨_, upd_same, for_it walk_keysT (fun j σ Hj => (∃ (x9 x10 x13 : Option V) (tl' : Addr), σ = [some (.ref p), some (.int b), some (.int many), some (.int most), some (.ref ln), some (.ref r), some (.str nm), some (.ref D), some (.ref U), x9, x10, some (.int W), some (.ref tl'), x13, none, none] ∧
        ∃ zt : List (V × (Spot × Int)), Hj tl' = some (.lst (zt.map (·.1))) ∧ tl' ≠ p ∧ tl' ≠ U ∧ (∀ z ∈ zt, Dx w (TupG Hj) z.1 (mkT W z.2)) ∧ SF (M.take j) W (zt.map (·.2))) ∧ PenD Hj p c (t + 125 + 40 * i + j) ∧ Hj U = some (.frz od (.dT (tkv M))) ∧ ∀ a o, a ≠ p → a ≠ U → H7 a = some o → Hj a = some o) ?_ ?_ ?_ ?_⟩⟩
      · exact ⟨⟨_, _, _, t0, rfl, [], by rw [agL _ t0U]; exact ht0, t0p, t0U, (fun _ h => nomatch h), List.nodup_nil, (fun _ h => nomatch h), rfl, Nat.le_refl _⟩, C7.agree Up Uc agL (by omega), upd_same, fun a o _ ha e => by rw [agL a ha]; exact e⟩
      · rintro j σ Hj _ ⟨_, _, hU, _⟩
        exact hU
      · rintro j x σ Hj Hj' hj ⟨⟨x9, x10, x13, tl', rfl, zt, htl, tlp, tlU, hzt, sf⟩, Cj, hU, kj⟩ ⟨rfl, k0, v0, q, hkv, rfl, hq⟩
        unfold tkv at hkv hj
        rw [List.getElem?_map] at hkv
        rw [List.length_map] at hj
        obtain ⟨e, he, ee⟩ := Option.map_eq_some_iff.mp hkv
        cases ee
        have em := List.mem_of_getElem? he
        have e0 := (PMM.ok e em).2
        have eW : e.2 ≤ W := by rw [← sM]; exact (le_sumM fun d hd => (PMM.ok d hd).2).2 e em
        have hv : valV (tkv M) (pk e.1) = some (.int e.2) := by rw [val_tk, getM_mem PMM.nod em]; rfl
        refine ⟨_, rfl, _, rfl, U, .int e.2, rfl, .inr ⟨tkv M, pk e.1, q, .inr ⟨od, hU⟩, rfl, hq, hv.symm⟩, ?_⟩
        refine ⟨fun σ Ho => ∃ (sl : Addr) (sh : List Int), σ = [some (.ref p), some (.int b), some (.int many), some (.int most), some (.ref ln), some (.ref r), some (.str nm), some (.ref D), some (.ref U), some (.int e.2), some (.ref q), some (.int W), some (.ref tl'), some (.ref sl), none, none] ∧ Ho sl = some (.lst (sh.map V.int)) ∧ (sh = [e.2] ∨ (sh = [1, e.2 - 1] ∧ 2 < e.2)) ∧ PenD Ho p c (t + 125 + 40 * i + j + 1) ∧ ∀ a o, a ≠ p → Hj' a = some o → Ho a = some o, ?_, ?_⟩
        · have one : ∀ (Hx : Hp), PenD Hx p c (t + 125 + 40 * i + j + 1) → (∀ a o, a ≠ p → Hj' a = some o → Hx a = some o) → ∀ sl Hy, Same Hx Hy → Hy sl = some (.lst [.int e.2]) → ∃ (sl' : Addr) (sh : List Int), [some (V.ref p), some (.int b), some (.int many), some (.int most), some (.ref ln), some (.ref r), some (.str nm), some (.ref D), some (.ref U), some (.int e.2), some (.ref q), some (.int W), some (.ref tl'), some (.ref sl), none, none] = [some (V.ref p), some (.int b), some (.int many), some (.int most), some (.ref ln), some (.ref r), some (.str nm), some (.ref D), some (.ref U), some (.int e.2), some (.ref q), some (.int W), some (.ref tl'), some (.ref sl'), none, none] ∧ Hy sl' = some (.lst (sh.map V.int)) ∧ (sh = [e.2] ∨ (sh = [1, e.2 - 1] ∧ 2 < e.2)) ∧ PenD Hy p c (t + 125 + 40 * i + j + 1) ∧ ∀ a o, a ≠ p → Hj' a = some o → Hy a = some o :=
            fun Hx Cx kx sl Hy sy hsl => ⟨sl, [e.2], rfl, hsl, .inl rfl, Cx.same sy (Nat.le_refl _), fun a o ha g => sy _ _ (kx a o ha g)⟩
          have base0 : PenD Hj' p c (t + 125 + 40 * i + j + 1) := Cj.same (Same.refl _) (by omega)
          refine ⟨_, rfl, _, _, rfl, rfl, _, rfl, ?_⟩
          by_cases c1 : 2 < e.2
          · refine ifT (decide_eq_true c1) ?_
            refine ⟨_, rfl, U, tkv M, rfl, .inr ⟨od, hU⟩, _, _, rfl, rfl, _, rfl, ite2 (fun _ => ?_) (fun _ => ?_)⟩
            · refine ⟨_, rfl, p, c, 3, _, rfl, by decide, by decide, Cj, by omega, fun z H8 z0 z1 b8 C8 => ⟨rfl, _, rfl, ite2 (fun _ => ?_) (fun _ => ?_)⟩⟩
              · refine ⟨_, rfl, _, _, rfl, rfl, (by show 2 ≤ sizeLine; decide), fun sl Hy sy _ hsl => ?_⟩
                exact ⟨sl, [1, e.2 - 1], rfl, hsl, .inr ⟨rfl, c1⟩, C8.same sy (by omega), fun a o ha g => sy _ _ (b8 _ _ ha g)⟩
              · exact ⟨_, rfl, (by show 1 ≤ sizeLine; decide), fun sl Hy sy _ hsl => one H8 (C8.same (Same.refl _) (by omega)) (fun a o ha g => b8 _ _ ha g) sl Hy sy hsl⟩
            · exact ifF rfl ⟨_, rfl, (by show 1 ≤ sizeLine; decide), fun sl Hy sy _ hsl => one Hj' base0 (fun a o ha g => g) sl Hy sy hsl⟩
          · refine ifF (decide_eq_false c1) (ifF rfl ?_)
            exact ⟨_, rfl, (by show 1 ≤ sizeLine; decide), fun sl Hy sy _ hsl => one Hj' base0 (fun a o ha g => g) sl Hy sy hsl⟩
        rintro σ Ho ⟨sl, sh, rfl, hsl, hsh, Co, ko⟩
        have qp : q ≠ p := fun z => (penD_nt Cj) _ (by rw [z] at hq; exact hq)
        have hqo := ko _ _ qp hq
        have htlo := ko _ _ tlp htl
        have hUo := ko _ _ Up hU
        have kto : KeepT Hj' Ho := keepT2 (p := p) (U := p) (penD_nt Cj) (penD_nt Cj) fun a o h1 _ g => ko a o h1 g
        have shn : ∀ x ∈ sh, 0 < x ∧ x ≤ 30 := fun x hx => by
          rcases hsh with rfl | ⟨rfl, h2⟩
          · rw [List.mem_singleton.mp hx]; omega
          · simp only [List.mem_cons, List.not_mem_nil, or_false] at hx
            rcases hx with rfl | rfl <;> omega
        refine ⟨_, rfl, _, rfl, sl, rfl, ⟨_, SqL.of hsl⟩, fun D2 nD2 => ?_⟩
        refine lc_it (walk_list (K := K) (a := sl) (xs := sh.map V.int)) (fun m Hi => Same Ho Hi ∧ ∃ zs : List (V × (Spot × Int)), Hi D2 = some (.lst (zs.map (·.1))) ∧ zs.map (·.2) = (sh.take m).map (fun x => (e.1, x)) ∧ ∀ z ∈ zs, Dx w (TupG Hi) z.1 (mkT W z.2))
          ⟨Same.upd nD2, [], upd_same, rfl, fun _ h => nomatch h⟩ (fun m Hi _ z => SqL.of (z.1 _ _ hsl)) ?_ ?_
        · rintro m x Hi Hk hm ⟨si, zs, hD2, hz2, hzd⟩ ⟨rfl, hx⟩
          rw [List.length_map] at hm
          obtain ⟨sx, hsx, rfl⟩ : ∃ sx, sh[m]? = some sx ∧ x = .int sx := by
            rw [List.getElem?_map, List.getElem?_eq_getElem hm] at hx
            exact ⟨sh[m], List.getElem?_eq_getElem hm, (Option.some.inj hx).symm⟩
          have hsxm := shn sx (List.mem_of_getElem? hsx)
          refine ⟨rfl, ?_⟩
          refine ⟨_, rfl, _, rfl, _, rfl, sx, W, rfl, by omega, Nat.lt_of_le_of_lt (show W.natAbs ≤ 30 by omega) (by decide), fun lq nlq => ⟨(by show 1 ≤ sizeLine; decide), fun c1 Hc sc hc1 => ?_⟩⟩
          have slq : Same Hk (upd Hk lq (.tup [.int (sx / gL sx W), .int (W / gL sx W)])) := Same.upd nlq
          have skc := slq.trans sc
          have hlq : Hc lq = some (.tup [.int (sx / gL sx W), .int (W / gL sx W)]) := sc _ _ upd_same
          refine ⟨Hc, q, c1, _, _, rfl, rfl, Same.refl _, skc _ _ (si _ _ hqo), hc1, (by show 2 + 1 ≤ sizeLine; decide), fun c2 G' H' mm h2 => ?_⟩
          have skh := skc.trans mm.hh
          have hD2' := skh _ _ hD2
          have nt : ∀ ys, H' D2 ≠ some (.tup ys) := fun ys z => by rw [hD2'] at z; cases z
          have lz : zs.length ≤ 2 := by
            have h1 := congrArg List.length hz2
            rw [List.length_map, List.length_map, List.length_take] at h1
            have h2 : sh.length ≤ 2 := by rcases hsh with h | ⟨h, _⟩ <;> (rw [h]; simp)
            omega
          refine ⟨_, hD2', by rw [List.length_map, sizeLine_eq]; omega, fun a o g => ?_, zs ++ [(.ref c2, (e.1, sx))], by rw [upd_same, List.map_append]; rfl, ?_, fun z hz => ?_⟩
          · rw [upd_ne (ne_of_none g nD2)]; exact skh _ _ (si _ _ g)
          · rw [List.map_append, hz2, List.take_add_one, hsx, List.map_append]; rfl
          · rcases List.mem_append.mp hz with h | h
            · exact (hzd z h).mono ((KeepT.of skh).trans (KeepT.upd nt)).g
            · rw [List.mem_singleton.mp h]
              have kk : KeepT H' (upd H' D2 (.lst (zs.map (·.1) ++ [.ref c2]))) := KeepT.upd nt
              exact .tup (tupG_at (kk _ _ (mm.gh _ _ h2))) (.cons (.int _) (.cons (.str _) (.cons (.tup (tupG_at (kk _ _ (mm.hh _ _ hlq))) (.cons (.int _) (.cons (.int _) .nil))) .nil)))
        · rintro Hd ⟨sd, zs, hD2, hz2, hzd⟩
          rw [List.length_map, List.take_length] at hz2
          have lz : zs.length ≤ 2 := by
            have h1 := congrArg List.length hz2
            rw [List.length_map, List.length_map] at h1
            have h2 : sh.length ≤ 2 := by rcases hsh with h | ⟨h, _⟩ <;> (rw [h]; simp)
            omega
          have lt : zt.length ≤ 12 := by
            have h1 := sf.len
            rw [List.length_map, List.length_take] at h1
            omega
          refine ⟨tl', D2, _, _, rfl, rfl, sd _ _ htlo, hD2, by rw [List.length_map, List.length_map, sizeLine_eq]; omega, fun tn ntn => ?_⟩
          have sn : Same Hd (upd Hd tn (.lst (zt.map (·.1) ++ zs.map (·.1)))) := Same.upd ntn
          have Cn := (Co.same sd (Nat.le_refl _)).same sn (Nat.le_refl _)
          have ktn : KeepT Hj' (upd Hd tn (.lst (zt.map (·.1) ++ zs.map (·.1)))) := kto.trans (KeepT.of (sd.trans sn))
          refine ⟨⟨_, _, _, tn, rfl, zt ++ zs, by rw [upd_same, List.map_append], (Co.same sd (Nat.le_refl _)).not ntn, (ne_of_none (sd _ _ hUo) ntn).symm, fun z hz => ?_, ?_⟩, Cn.same (Same.refl _) (by omega), sn _ _ (sd _ _ hUo), fun a o h1 h2 g => sn _ _ (sd _ _ (ko _ _ h1 (kj a o h1 h2 g)))⟩
          · rcases List.mem_append.mp hz with h | h
            · exact (hzt z h).mono ktn.g
            · exact (hzd z h).mono (KeepT.of sn).g
          · rw [List.map_append, hz2]
            exact sf.one PMM.nod he e0 eW hsh
      · rintro σ Hj ⟨⟨x9, x10, x13, tl', rfl, zt, htl, tlp, tlU, hzt, sf⟩, Cj, hU, kj⟩
        have tkl : (tkv M).length = M.length := by unfold tkv; rw [List.length_map]
        rw [tkl] at sf Cj
        rw [List.take_length] at sf
        refine ⟨hU, ?_⟩
        have agU : ∀ a, a ≠ U → upd Hj U (.dT (tkv M)) a = Hj a := fun a ha => upd_ne ha
        have ktU : KeepT Hj (upd Hj U (.dT (tkv M))) := KeepT.upd fun ys z => by rw [hU] at z; cases z
        have CU := Cj.agree Up Uc agU (Nat.le_refl _)
        have kU : ∀ a o, a ≠ p → a ≠ U → H7 a = some o → upd Hj U (.dT (tkv M)) a = some o := fun a o h1 h2 e => by rw [agU a h2]; exact kj a o h1 h2 e
        have htlU : upd Hj U (.dT (tkv M)) tl' = some (.lst (zt.map (·.1))) := by rw [agU _ tlU]; exact htl
        have hztU : ∀ z ∈ zt, Dx w (TupG (upd Hj U (.dT (tkv M)))) z.1 (mkT W z.2) := fun z hz => (hzt z hz).mono ktU.g
        generalize upd Hj U (.dT (tkv M)) = Hv at CU kU htlU hztU
        -- sorted
        have hlen : zt.length ≤ 12 := by have h1 := sf.len; rw [List.length_map] at h1; omega
        have hrv := kU _ _ rp Ur.symm (s7 _ _ (k6 _ _ rp Ur.symm hr5))
        have sub25 : ∀ a o, a ≠ p → a ≠ U → H3 a = some o → Hv a = some o := fun a o h1 h2 e => kU a o h1 h2 (s7 _ _ (k6 a o h1 h2 (b25 a o h1 e)))
        refine ⟨_, rfl, tl', zt.map (fun z => (z.1, mkT W z.2)), rfl, by rw [htlU, List.map_map]; rfl, fun z hz => ?_, fun d hd d' hd' => ?_, .inl fun d hd => ?_, fun z hz => ?_, fun sl nsl => ?_⟩
        · obtain ⟨y, hy, rfl⟩ := List.mem_map.mp hz
          exact (hztU y hy).mono tupG_sub
        · obtain ⟨y, hy, rfl⟩ := List.mem_map.mp hd
          obtain ⟨y', hy', rfl⟩ := List.mem_map.mp hd'
          obtain ⟨z, _, rfl⟩ := List.mem_map.mp hy
          obtain ⟨z', _, rfl⟩ := List.mem_map.mp hy'
          exact mkT_alike _ _ _
        · obtain ⟨y, hy, rfl⟩ := List.mem_map.mp hd
          obtain ⟨z, _, rfl⟩ := List.mem_map.mp hy
          exact ⟨_, _, rfl⟩
        · obtain ⟨y, hy, rfl⟩ := List.mem_map.mp hz
          simp only [mkT, PyData.depth, PyData.depthAll]; omega
        have ss : Same Hv (upd Hv sl (.lst (((zt.map (fun z => (z.1, mkT W z.2))).mergeSort (PySem.W.dataLe false (·.2))).map (·.1)))) := Same.upd nsl
        have hsl : (upd Hv sl (.lst (((zt.map (fun z => (z.1, mkT W z.2))).mergeSort (PySem.W.dataLe false (·.2))).map (·.1)))) sl = some (.lst (((zt.map (fun z => (z.1, mkT W z.2))).mergeSort (PySem.W.dataLe false (·.2))).map (·.1))) := upd_same
        refine ⟨sl, _, rfl, .inl ⟨SqL.of hsl, fun tq ntq => ?_⟩⟩
        obtain ⟨zq, ezq, pzq⟩ : ∃ zq : List (V × (Spot × Int)), (zt.map (fun z => (z.1, mkT W z.2))).mergeSort (PySem.W.dataLe false (·.2)) = zq.map (fun z => (z.1, mkT W z.2)) ∧ zq.Perm zt :=
          ⟨zt.mergeSort fun x y => PySem.W.dataLe false (fun z : V × PyData => z.2) (x.1, mkT W x.2) (y.1, mkT W y.2), (List.map_mergeSort (r := fun x y => PySem.W.dataLe false (fun z : V × PyData => z.2) (x.1, mkT W x.2) (y.1, mkT W y.2)) (s := PySem.W.dataLe false fun z : V × PyData => z.2) (f := fun z : V × (Spot × Int) => (z.1, mkT W z.2)) (l := zt) (fun _ _ _ _ => rfl)).symm, List.mergeSort_perm _ _⟩
        have srt := List.pairwise_mergeSort (le := PySem.W.dataLe false fun z : V × PyData => z.2) (fun a b c h1 h2 => le_trans' _ a b c h1 h2) (fun a b => le_total' _ a b) (zt.map (fun z => (z.1, mkT W z.2)))
        rw [ezq] at ntq hsl ss srt ⊢
        rw [List.map_map] at ntq hsl ss ⊢
        generalize upd Hv sl (.lst (zq.map ((·.1) ∘ fun z => (z.1, mkT W z.2)))) = Hs at ss hsl ntq
        have st := Same.upd (o := .tup (zq.map ((·.1) ∘ fun z : V × (Spot × Int) => (z.1, mkT W z.2)))) ntq
        have htq : (upd Hs tq (.tup (zq.map ((·.1) ∘ fun z : V × (Spot × Int) => (z.1, mkT W z.2))))) tq = some (.tup (zq.map ((·.1) ∘ fun z : V × (Spot × Int) => (z.1, mkT W z.2)))) := upd_same
        generalize upd Hs tq (.tup (zq.map ((·.1) ∘ fun z : V × (Spot × Int) => (z.1, mkT W z.2)))) = Ht at st htq
        have svt := ss.trans st
        have hrt := svt _ _ hrv
        have trq : tq ≠ r := fun z => by rw [z, hrt] at htq; cases htq
        have klen : kvs.length ≤ 8 := by
          have h1 := congrArg List.length hks
          rw [List.length_map, List.length_map, List.length_take] at h1
          omega
        refine ⟨_, rfl, _, rfl, r, _, rfl, DPut.k (k := Sum.inr nm) hrt (by rw [sizeLine_eq]; omega), ?_⟩
        rw [put_new hks (take_new nok.nod hnm)]
        have agr : ∀ a, a ≠ r → upd Ht r (.dK (kvs ++ [(Sum.inr nm, .ref tq)])) a = Ht a := fun a ha => upd_ne ha
        have ktf : KeepT Ht (upd Ht r (.dK (kvs ++ [(Sum.inr nm, .ref tq)]))) := KeepT.upd fun ys z => by rw [hrt] at z; cases z
        have kt3 : KeepT H3 Ht := (keepT2 (p := p) (U := U) (penD_nt C2) (fun ys z => by rw [b25 _ _ Up z] at nU; cases nU) sub25).trans (KeepT.of svt)
        refine ⟨⟨_, _, _, _, _, _, _, _, rfl⟩, hi, (CU.same svt (Nat.le_refl _)).agree rp rc agr (by omega), fun a o h1 h2 e => ?_, _, rows ++ [zq.map fun z => mkT W z.2], upd_same, ?_, ?_, by rw [List.length_append, hrl]; rfl, fun row hr' => ?_⟩
        · rw [agr a h2]
          have e3 := kp a o h1 h2 e
          exact svt _ _ (sub25 a o h1 (fun z => by
            have := b25 _ _ h1 e3
            rw [z, nU] at this; cases this) e3)
        · rw [List.map_append, hks, List.take_add_one, hnm, List.map_append]; rfl
        · rw [List.map_append, List.map_append]
          refine (hdx.mono (kt3.trans ktf).g).append (.cons ?_ .nil)
          refine .tup (tupG_at (by rw [agr _ trq]; exact htq)) ?_
          have := dxall_mem (w := w) (G := TupG (upd Ht r (.dK (kvs ++ [(Sum.inr nm, .ref tq)])))) (zs := zq.map fun z => (z.1, mkT W z.2)) fun z hz => by
            obtain ⟨y, hy, rfl⟩ := List.mem_map.mp hz
            exact (hztU y (pzq.mem_iff.mp hy)).mono ((KeepT.of svt).trans ktf).g
          rw [List.map_map, List.map_map] at this
          exact this
        · rcases List.mem_append.mp hr' with h | h
          · exact hrow row h
          · rw [List.mem_singleton.mp h]
            refine ⟨zq.map (·.2), W, by rw [List.map_map]; rfl, (pzq.map (·.2)).nodup_iff.mpr sf.nod, fun e he => ?_, ?_, by omega, W30, ?_, ?_, ?_⟩
            · have he2 := (pzq.map (·.2)).mem_iff.mp he
              obtain ⟨h1, h2, h3⟩ := sf.ok e he2
              obtain ⟨d, hd, ed⟩ := List.mem_map.mp h1
              have := (PMM.ok d hd).1
              rw [ed] at this
              exact ⟨this, h2, h3⟩
            · rw [← sM, ← sf.sum]
              unfold sumM
              exact sum_perm ((pzq.map (·.2)).map (·.2))
            · rw [List.length_map, pzq.length_eq]; exact hlen
            · intro z
              have h1 := congrArg List.length z
              rw [List.length_map, pzq.length_eq, List.length_nil] at h1
              have : zt = [] := List.length_eq_zero_iff.mp h1
              have h2 := sf.sum
              rw [this, sM] at h2
              have : W = 0 := h2.symm
              omega
            · rw [List.pairwise_map] at srt ⊢
              refine srt.imp fun {a b} h => ?_
              rw [PySem.W.dataLe_eq] at h
              simpa using h
    · rintro σ H2 ⟨⟨y6, y7, y8, y9, y10, y11, y12, y13, rfl⟩, _, C2, kp, kvs, rows, hrk, hks, hdx, hrl, hrow⟩
      rw [List.length_map, List.take_length] at hks
      rw [List.length_map] at C2 hrl
      refine ⟨_, rfl, _, rfl, (by show 2 ≤ sizeLine; decide), fun bk Hz sz hbk => ?_⟩
      have sH : But p H Hz := fun a o ha e => by
        have e1 := b1' a o ha e
        exact sz _ _ (kp a o ha (ne_of_none e1 nr) e1)
      have freeH : ∀ a : Addr, a ≠ p → H1 a = none → H a = none := fun a ha n => by
        cases q : H a with
        | none => rfl
        | some o => rw [b1' _ _ ha q] at n; cases n
      have Cz := C2.same sz (Nat.le_refl _)
      exact k bk r ns rows kvs Hz sH (Cz.same (Same.refl _) (by have := nok.len; omega)) (freeH r rp nr) hbk (sz _ _ hrk) hks nok (hdx.mono (KeepT.of sz).g) hrl hrow
end
end My

set_option linter.all false
namespace My
open PySem PySem.Spec PyProof.Rows L2
/-! ### books of anything: the program's look -/
abbrev sWholeX : Stmt := topS 2
abbrev sBaseX : Stmt := topS 3
abbrev sNameX : Stmt := topS 4
abbrev sNamedX : Stmt := topS 5
theorem kit_strX : ∀ d : PyData, kitB (tyN d) "str" = some (isT "str" d)
  | .none => by decide +kernel
  | .bool _ => (by decide +kernel : kitB "bool" "str" = some false)
  | .int _ => (by decide +kernel : kitB "int" "str" = some false)
  | .str _ => (by decide +kernel : kitB "str" "str" = some true)
  | .list _ => (by decide +kernel : kitB "list" "str" = some false)
  | .tuple _ => (by decide +kernel : kitB "tuple" "str" = some false)
  | .dict _ => (by decide +kernel : kitB "dict" "str" = some false)
theorem kit_dictX : ∀ d : PyData, kitB (tyN d) "dict" = some (isT "dict" d)
  | .none => by decide +kernel
  | .bool _ => (by decide +kernel : kitB "bool" "dict" = some false)
  | .int _ => (by decide +kernel : kitB "int" "dict" = some false)
  | .str _ => (by decide +kernel : kitB "str" "dict" = some false)
  | .list _ => (by decide +kernel : kitB "list" "dict" = some false)
  | .tuple _ => (by decide +kernel : kitB "tuple" "dict" = some false)
  | .dict _ => (by decide +kernel : kitB "dict" "dict" = some true)
def letC (c : Nat) : Bool := decide (97 ≤ c) && decide (c ≤ 122)
def nameB (x : Str) : Bool := decide (1 ≤ x.length) && decide (x.length ≤ 8) && x.cps.toList.all letC
def nameD : PyData → Bool
  | .str x => nameB x
  | _ => false
def strIs (x : Str) : PyData → Bool
  | .str y => decide (y = x)
  | _ => false
def baseD : PyData → Bool
  | .int b => decide (2 ≤ b) && decide (b ≤ 10)
  | _ => false
def namedD : PyData → Bool
  | .tuple [.int b, .dict ds] => decide (2 ≤ b) && decide (b ≤ 10) && decide (1 ≤ ds.length) && decide (ds.length ≤ 6) && (ds.map (·.1)).all nameD
  | _ => false
def StrOk (d : PyData) : Prop := ∀ x, d = .str x → x.length ≤ sizeLine ∧ PyData.strOk x = true
def FineB (d : PyData) : Prop := ∀ b ds, d = .tuple [b, .dict ds] → ∀ k ∈ ds.map (·.1), StrOk k
structure TxP (mg : Str → Option Value) : Prop where
  isi : mg "isinstance" = none
  len : mg "len" = none
  int : mg "int" = none
  bool : mg "bool" = none
  tuple : mg "tuple" = none
  str : mg "str" = none
  dict : mg "dict" = none
  all : mg "all" = none
  zip : mg "zip" = none
  list : mg "list" = none
  range : mg "range" = none
def spWholeX (w : World) : Sp := fun vs H Q _ => ∃ (v : V) (d : PyData), vs = [v] ∧ Dx w H v d ∧ Q (.bl (isT "int" d)) H
def spBaseX (w : World) : Sp := fun vs H Q _ => ∃ (v : V) (d : PyData), vs = [v] ∧ Dx w H v d ∧ Q (.bl (baseD d)) H
def spNameX (w : World) : Sp := fun vs H Q _ => ∃ (v : V) (d : PyData), vs = [v] ∧ Dx w H v d ∧ StrOk d ∧ ∀ H', Same H H' → Q (.bl (nameD d)) H'
def spNamedX (w : World) : Sp := fun vs H Q _ => ∃ (v : V) (d : PyData), vs = [v] ∧ Dx w H v d ∧ FineB d ∧ ∀ H', Same H H' → Q (.bl (namedD d)) H'
section
variable {P : Program} {w : World} {K : PySem.W.Frag} {mg : Str → Option Value} {base : Heap}
theorem scWholeX : FnScope ["thing"] ["thing"] (defScope sWholeX) := ⟨rfl, rfl, rfl, by decide +kernel, rfl, by decide +kernel, by decide +kernel⟩
theorem scBaseX : FnScope ["thing"] ["thing"] (defScope sBaseX) := ⟨rfl, rfl, rfl, by decide +kernel, rfl, by decide +kernel, by decide +kernel⟩
theorem scNameX : FnScope ["thing", "sign"] ["thing"] (defScope sNameX) := ⟨rfl, rfl, rfl, by decide +kernel, rfl, by decide +kernel, by decide +kernel⟩
theorem scNamedX : FnScope ["thing", "base", "rows", "name"] ["thing"] (defScope sNamedX) := ⟨rfl, rfl, rfl, by decide +kernel, rfl, by decide +kernel, by decide +kernel⟩
theorem ok_wholeX {f : Addr} {fd : FuncData} (F : Fun K "is_whole" "is_whole" sWholeX f fd) (T : TxP mg) : FnOk P w K mg base CX0 1 f fd ["thing"] (spWholeX w) := by
  refine F.ok scWholeX (fun vs H Q E h => ?_) (fun cdv A outer s H vs Q E hr h => ?_)
  · obtain ⟨v, d, rfl, _⟩ := h
    rfl
  · obtain ⟨v, d, rfl, dv, k⟩ := h
    refine ⟨_, (pss_one (ps_ret (pe_and (pe_callB call_isiX (by rfl) T.isi boot_isinstance (pa_cons (pv 0) (pa_cons (pe_bltn (v := .ty "int") (by rfl) T.int boot_int rfl) pa_nil))) (pe_one (pe_not (pe_callB call_isiX (by rfl) T.isi boot_isinstance (pa_cons (pv 0) (pa_cons (pe_bltn (v := .ty "bool") (by rfl) T.bool boot_bool rfl) pa_nil)))))))), ?_⟩
    refine ⟨_, rfl, _, _, _, _, rfl, dv, kit_int _, _, rfl, ?_⟩
    cases hi : isT "int" d || isT "bool" d with
    | false =>
      have h1 : isT "int" d = false := by cases q : isT "int" d with | false => rfl | true => rw [q] at hi; cases hi
      rw [h1] at k
      exact iteF k
    | true =>
      refine iteT ⟨_, rfl, _, _, _, _, rfl, dv, kit_bool _, _, rfl, ?_⟩
      have h1 : (!isT "bool" d) = isT "int" d := by cases d <;> first | rfl | exact Bool.noConfusion (show false = true from hi)
      rw [h1]
      exact k
theorem ok_baseX {f fWh : Addr} {fd fdWh : FuncData} (F : Fun K "is_base" "is_base" sBaseX f fd) (T : TxP mg)
    (FWh : Fun K "is_whole" "is_whole" sWholeX fWh fdWh) (bWh : Binds K fdWh ["thing"] []) (gWh : mg "is_whole" = some (.ref fWh)) : FnOk P w K mg base CX0 2 f fd ["thing"] (spBaseX w) := by
  have GWh : FnOk P w K mg base CX0 1 fWh fdWh ["thing"] (spWholeX w) := ok_wholeX FWh T
  refine F.ok scBaseX (fun vs H Q E h => ?_) (fun cdv A outer s H vs Q E hr h => ?_)
  · obtain ⟨v, d, rfl, _⟩ := h
    rfl
  · obtain ⟨v, d, rfl, dv, k⟩ := h
    have hr1 := hr
    refine ⟨_, (pss_one (ps_ret (pe_and (pe_call GWh hr1 (by rfl) gWh FWh.kp bWh .nil pass0 (pa_cons (pv 0) pa_nil)) (pe_one (pe_chain op_le op_le pe_int (pv 0) pe_int))))), ?_⟩
    refine ⟨_, rfl, v, d, rfl, dv, _, rfl, ?_⟩
    cases d with
    | int b =>
      cases dv
      refine iteT ⟨_, rfl, _, _, rfl, rfl, _, rfl, ite2 (fun c => ⟨_, _, rfl, rfl, ?_⟩) (fun c => ?_)⟩
      · have : baseD (.int b) = decide (b ≤ 10) := by show (decide (2 ≤ b) && _) = _; rw [c, Bool.true_and]
        rw [this] at k; exact k
      · have : baseD (.int b) = false := by show (decide (2 ≤ b) && _) = _; rw [Bool.eq_false_iff.mpr c, Bool.false_and]
        rw [this] at k; exact k
    | _ => exact iteF k
theorem sign_le {c : Nat} : (!decide ((⟨#[c]⟩ : Str).cps.toList < ("a" : Str).cps.toList)) = decide (97 ≤ c) := by
  show (!decide ([c] < [97])) = _
  by_cases h : 97 ≤ c
  · rw [decide_eq_true h]
    have : ¬ [c] < [97] := by simp [List.cons_lt_cons_iff]; omega
    simp [this]
  · rw [decide_eq_false h]
    have : [c] < [97] := by simp [List.cons_lt_cons_iff]; omega
    simp [this]
theorem sign_le2 {c : Nat} : (!decide (("z" : Str).cps.toList < (⟨#[c]⟩ : Str).cps.toList)) = decide (c ≤ 122) := by
  show (!decide ([122] < [c])) = _
  by_cases h : c ≤ 122
  · rw [decide_eq_true h]
    have : ¬ [122] < [c] := by simp [List.cons_lt_cons_iff]; omega
    simp [this]
  · rw [decide_eq_false h]
    have : [122] < [c] := by simp [List.cons_lt_cons_iff]; omega
    simp [this]
theorem ok_nameX {f : Addr} {fd : FuncData} (F : Fun K "is_name" "is_name" sNameX f fd) (T : TxP mg) : FnOk P w K mg base CX0 1 f fd ["thing"] (spNameX w) := by
  refine F.ok scNameX (fun vs H Q E h => ?_) (fun cdv A outer s H vs Q E hr h => ?_)
  · obtain ⟨v, d, rfl, _⟩ := h
    rfl
  · obtain ⟨v, d, rfl, dv, so, k⟩ := h
    refine ⟨_, (pss_cons (ps_if (PW.pt (pw_or (pt_not (pt_val (pe_callB call_isiX (by rfl) T.isi boot_isinstance (pa_cons (pv 0) (pa_cons (pe_bltn (v := .ty "str") (by rfl) T.str boot_str rfl) pa_nil))))) (pw_or1 (pt_not (pt_chain op_le op_le pe_int (pe_callB call_len_str (by rfl) T.len PySem.boot_len (pa_cons (pv 0) pa_nil)) pe_int))))) (pss_one (ps_ret pe_bl)) pss_nil)
      (pss_one (ps_ret (pe_callB (cr_all rfl) (by rfl) T.all boot_all (pa_cons (pe_lc (own := [("sign", 1)]) (g := gName 1) (tt := tYes) rfl scNameX.nd (pi_str (pv 0)) (blkOk_by (N := ["thing", "sign"]) (sc := defScope sNameX) (by decide +kernel)) (fun _ _ _ _ _ => (pg_name (i := 1) scNameX.nd rfl (Or.inl rfl))) (fun _ _ _ _ _ => pts_nil) (fun _ _ _ _ _ => (pe_chain op_le_str op_le_str pe_str (pv 1) pe_str))) pa_nil))))), ?_⟩
    refine ⟨_, rfl, _, _, _, _, rfl, dv, kit_strX _, _, rfl, ?_⟩
    cases d with
    | str x =>
      cases dv
      have z := (so x rfl).1
      refine iteF ⟨_, rfl, _, rfl, z, _, _, rfl, rfl, _, rfl, ?_⟩
      by_cases c1 : 1 ≤ x.length
      · refine ifT (decide_eq_true (by omega)) ⟨_, _, rfl, rfl, _, rfl, ?_⟩
        by_cases c8 : x.length ≤ 8
        · refine ifF (by rw [decide_eq_true (show (x.length : Int) ≤ 8 by omega)]; rfl) ⟨_, rfl, ?_⟩
          refine ⟨_, rfl, fun D nD => ?_⟩
          refine lc_gen (walk_str (z := x)) (fun _ => true) (fun i => .bl (letC ((x.cps[i]?).getD 0))) nD (by have : x.cps.size = x.length := rfl; omega) (fun _ _ => trivial) (fun i y Ha Hb hi sa yy Q2 R q2 r2 => ?_) fun Ha sa hD => ?_
          · obtain ⟨rfl, c, hc, rfl⟩ := yy
            have q3 := q2 rfl Hb (Same.refl _)
            rw [hc] at q3
            refine ⟨rfl, ?_⟩
            unfold tYes
            dsimp only
            rw [if_pos rfl]
            refine ⟨_, rfl, _, _, rfl, rfl, _, rfl, ?_⟩
            rw [sign_le]
            refine ite2 (fun e => ⟨_, _, rfl, rfl, ?_⟩) fun e => ?_
            · rw [sign_le2]
              have : letC c = decide (c ≤ 122) := by unfold letC; rw [e, Bool.true_and]
              rw [← this]; exact q3
            · have : letC c = false := by unfold letC; rw [Bool.eq_false_iff.mpr e, Bool.false_and]
              rw [← this]; exact q3
          · rw [range_all x.cps.size (fun _ => true), bools_map] at hD
            refine ⟨D, _, rfl, SqL.of hD, ?_⟩
            have e1 : ((List.range x.cps.size).map fun i => letC ((x.cps[i]?).getD 0)).all id = x.cps.toList.all letC := by
              have := all_range x.cps.toList (fun i => letC ((x.cps[i]?).getD 0)) letC fun i a e => by
                rw [Array.getElem?_toList] at e; rw [e]; rfl
              rw [Array.length_toList] at this
              exact this
            rw [e1]
            have : nameD (.str x) = x.cps.toList.all letC := by show (decide (1 ≤ x.length) && decide (x.length ≤ 8) && _) = _; rw [decide_eq_true c1, decide_eq_true c8]; rfl
            rw [← this]; exact k Ha sa
        · refine ifT (by rw [decide_eq_false (show ¬ (x.length : Int) ≤ 8 by omega)]; rfl) ?_
          have : nameD (.str x) = false := by show (_ && decide (x.length ≤ 8) && _) = false; rw [decide_eq_false c8]; simp
          rw [← this]; exact k H (Same.refl H)
      · refine ifF (decide_eq_false (by omega)) ⟨_, rfl, iteT ?_⟩
        have : nameD (.str x) = false := by show (decide (1 ≤ x.length) && _ && _) = false; rw [decide_eq_false c1]; simp
        rw [← this]; exact k H (Same.refl H)
    | _ => exact iteT (k H (Same.refl H))
theorem DF.keyv {H : Hp} {d : Addr} {kvs : List Kvv} (h : DF w H d kvs) : ∀ x ∈ kvs, KeyV H x.1 x.2.1 := by
  obtain ⟨od, u, es, ep, _, _, _, _, hE, _⟩ := h
  intro x hx
  obtain ⟨i, hi⟩ := List.mem_iff_getElem?.mp hx
  obtain ⟨en, _, h2⟩ := hE.get hi
  exact h2.1
theorem key_text {H : Hp} {k : NestedKey} {v : V} {d : PyData} (hk : KeyV H k v) (hd : Dx w H v d) (x : Str) : decide (NestedKey.text x = k) = strIs x d := by
  cases hk with
  | str y =>
    cases hd
    show _ = decide (y = x)
    by_cases c : y = x
    · subst c; simp
    · rw [decide_eq_false c, decide_eq_false fun z => c (by injection z with z; exact z.symm)]
  | non => cases hd; rfl
  | bl b => cases hd; rfl
  | int i => cases hd; rfl
  | tup h1 h2 => cases hd <;> rfl
theorem keys_any {H : Hp} (x : Str) : ∀ {kvs : List Kvv} {ks : List PyData}, (∀ y ∈ kvs, KeyV H y.1 y.2.1) → DxAll w H (kvs.map fun y => y.2.1) ks → decide (NestedKey.text x ∈ kvs.map fun y : Kvv => y.1) = ks.any (strIs x)
  | [], _, _, h => by cases h; rfl
  | y :: r, _, hk, h => by
    cases h with
    | cons h1 h2 =>
      rw [List.any_cons, ← keys_any x (fun z hz => hk z (List.mem_cons_of_mem _ hz)) h2, ← key_text (hk y List.mem_cons_self) h1 x, List.map_cons]
      by_cases c : NestedKey.text x = y.1
      · simp [c]
      · simp [c]
theorem named_two {d0 d1 : PyData} : namedD (.tuple [d0, d1]) = (baseD d0 && match d1 with | .dict ds => decide (1 ≤ ds.length) && decide (ds.length ≤ 6) && (ds.map (·.1)).all nameD | _ => false) := by
  cases d0 with
  | int b =>
    cases d1 with
    | dict ds =>
      show (_ && _ && _ && _ && _) = ((_ && _) && (_ && _ && _))
      simp only [Bool.and_assoc]
    | _ => simp [namedD]
  | _ => rfl
theorem ok_namedX {f fBa fNa fWh : Addr} {fd fdBa fdNa fdWh : FuncData} (F : Fun K "has_named_rows" "has_named_rows" sNamedX f fd) (T : TxP mg)
    (FWh : Fun K "is_whole" "is_whole" sWholeX fWh fdWh) (bWh : Binds K fdWh ["thing"] []) (gWh : mg "is_whole" = some (.ref fWh))
    (FBa : Fun K "is_base" "is_base" sBaseX fBa fdBa) (bBa : Binds K fdBa ["thing"] []) (gBa : mg "is_base" = some (.ref fBa))
    (FNa : Fun K "is_name" "is_name" sNameX fNa fdNa) (bNa : Binds K fdNa ["thing"] []) (gNa : mg "is_name" = some (.ref fNa)) : FnOk P w K mg base CX0 3 f fd ["thing"] (spNamedX w) := by
  have GBa : FnOk P w K mg base CX0 2 fBa fdBa ["thing"] (spBaseX w) := ok_baseX FBa T FWh bWh gWh
  have GNa : FnOk P w K mg base CX0 1 fNa fdNa ["thing"] (spNameX w) := ok_nameX FNa T
  refine F.ok scNamedX (fun vs H Q E h => ?_) (fun cdv A outer s H vs Q E hr h => ?_)
  · obtain ⟨v, d, rfl, _⟩ := h
    rfl
  · obtain ⟨v, d, rfl, dv, fb, k⟩ := h
    have hr2 := hr
    have hr1 := hr.mono (show 1 ≤ 2 by decide)
    refine ⟨_, (pss_cons (ps_if (PW.pt (pw_or (pt_not (pt_val (pe_callB call_isiX (by rfl) T.isi boot_isinstance (pa_cons (pv 0) (pa_cons (pe_bltn (v := .ty "tuple") (by rfl) T.tuple boot_tuple rfl) pa_nil))))) (pw_or1 (pt_cmpR op_ne (pe_callB call_len_seq (by rfl) T.len PySem.boot_len (pa_cons (pv 0) pa_nil)) pe_int (nomark _))))) (pss_one (ps_ret pe_bl)) pss_nil)
      (pss_cons (ps_asg (pv 0) (pg_tup (by rfl) (pgs_cons (pg_name (i := 1) scNamedX.nd rfl (Or.inl rfl)) (pgs_cons (pg_name (i := 2) scNamedX.nd rfl (Or.inl rfl)) pgs_nil))))
      (pss_cons (ps_if (PW.pt (pw_or (pt_not (pt_val (pe_call GBa hr2 (by rfl) gBa FBa.kp bBa .nil pass0 (pa_cons (pv 1) pa_nil)))) (pw_or (pt_not (pt_val (pe_callB call_isiX (by rfl) T.isi boot_isinstance (pa_cons (pv 2) (pa_cons (pe_bltn (v := .ty "dict") (by rfl) T.dict boot_dict rfl) pa_nil))))) (pw_or1 (pt_not (pt_chain op_le op_le pe_int (pe_callB call_lenF (by rfl) T.len PySem.boot_len (pa_cons (pv 2) pa_nil)) pe_int)))))) (pss_one (ps_ret pe_bl)) pss_nil)
      (pss_one (ps_ret (pe_callB (cr_all rfl) (by rfl) T.all boot_all (pa_cons (pe_lc (own := [("name", 3)]) (g := gName 3) (tt := tYes) rfl scNamedX.nd (pi_keysF (pv 2)) (blkOk_by (N := ["thing", "base", "rows", "name"]) (sc := defScope sNamedX) (by decide +kernel)) (fun _ _ _ _ _ => (pg_name (i := 3) scNamedX.nd rfl (Or.inl rfl))) (fun _ _ _ _ _ => pts_nil) (fun _ _ _ _ _ => (pe_call GNa hr1 (by rfl) gNa FNa.kp bNa .nil pass0 (pa_cons (pv 3) pa_nil)))) pa_nil))))))), ?_⟩
    refine ⟨_, rfl, _, _, _, _, rfl, dv, kit_tuple _, _, rfl, ?_⟩
    cases dv with
    | tup h1 h2 =>
      rename_i a xs ds
      refine iteF ⟨_, rfl, a, _, rfl, .inr (SqT.of h1), rfl, _, rfl, ?_⟩
      have ln := h2.len
      by_cases l2 : xs.length = 2
      · refine ifF (by simp [l2]) ?_
        obtain ⟨d0, d1, rfl⟩ : ∃ d0 d1, ds = [d0, d1] := by
          match ds, (ln.symm.trans l2 : ds.length = 2) with
          | [d0, d1], _ => exact ⟨d0, d1, rfl⟩
        cases h2 with
        | cons q0 r0 =>
          cases r0 with
          | cons q1 r1 =>
            cases r1
            rename_i v0 v1
            refine ⟨_, rfl, a, _, rfl, SqT.of h1, rfl, _, _, rfl, _, _, rfl, rfl, ?_⟩
            refine ⟨_, rfl, v0, d0, rfl, q0, _, rfl, ?_⟩
            cases hb : baseD d0 with
            | false =>
              refine iteT ?_
              have : namedD (.tuple [d0, d1]) = false := by rw [named_two, hb]; rfl
              rw [← this]; exact k H (Same.refl H)
            | true =>
              refine iteF ⟨_, rfl, _, _, _, _, rfl, q1, kit_dictX _, _, rfl, ?_⟩
              cases q1 with
              | dct hdf hk hv =>
                rename_i rr kvs es
                have e0 := hk.len
                rw [List.length_map, List.length_map] at e0
                refine iteF ⟨_, rfl, rr, kvs, rfl, hdf, _, _, rfl, rfl, _, rfl, ?_⟩
                by_cases c1 : 1 ≤ kvs.length
                · refine ifT (decide_eq_true (by omega)) ⟨_, _, rfl, rfl, _, rfl, ?_⟩
                  by_cases c6 : kvs.length ≤ 6
                  · refine ifF (by rw [decide_eq_true (show (kvs.length : Int) ≤ 6 by omega)]; rfl) ?_
                    refine ⟨_, rfl, rr, kvs, rfl, hdf, fun od u hod D nD => ?_⟩
                    refine lc_gen (walk_keysF (w := w) (d := rr) (od := od) (kvs := kvs)) (fun _ => true) (fun i => .bl (((es.map (·.1))[i]?).elim false nameD)) nD (by rw [sizeLine_eq]; omega) (fun Ha sa => ⟨⟨u, sa _ _ hod⟩, hdf.mono sa⟩) (fun i y Ha Hb hi sa yy Q2 R q2 r2 => ?_) fun Ha sa hD => ?_
                    · obtain ⟨rfl, kk, vv, ey⟩ := yy
                      obtain ⟨d2, g0, q0⟩ := hk.get (i := i) (v := y) (by rw [List.getElem?_map, ey]; rfl)
                      refine ⟨rfl, ?_⟩
                      unfold tYes
                      dsimp only
                      rw [if_pos rfl]
                      refine ⟨_, rfl, y, d2, rfl, q0.mono sa, fb d0 es rfl d2 (List.mem_of_getElem? g0), fun H4 s4 => ?_⟩
                      have q3 := q2 rfl H4 s4
                      rw [g0] at q3
                      exact q3
                    · rw [range_all kvs.length (fun _ => true), bools_map] at hD
                      refine ⟨D, _, rfl, SqL.of hD, ?_⟩
                      have e1 : ((List.range kvs.length).map fun i => ((es.map (·.1))[i]?).elim false nameD).all id = (es.map (·.1)).all nameD := by
                        have := all_range (es.map (·.1)) (fun i => ((es.map (·.1))[i]?).elim false nameD) nameD fun i a e => by rw [e]; rfl
                        rw [List.length_map, ← e0] at this
                        exact this
                      rw [e1]
                      have : namedD (.tuple [d0, .dict es]) = (es.map (·.1)).all nameD := by
                        rw [named_two, hb]
                        show (true && (decide (1 ≤ es.length) && decide (es.length ≤ 6) && _)) = _
                        rw [← e0, decide_eq_true c1, decide_eq_true c6]; rfl
                      rw [← this]; exact k Ha sa
                  · refine ifT (by rw [decide_eq_false (show ¬ (kvs.length : Int) ≤ 6 by omega)]; rfl) ?_
                    have : namedD (.tuple [d0, .dict es]) = false := by
                      rw [named_two, hb]
                      show (true && (decide (1 ≤ es.length) && decide (es.length ≤ 6) && _)) = _
                      rw [← e0, decide_eq_false c6]; simp
                    rw [← this]; exact k H (Same.refl H)
                · refine ifF (decide_eq_false (by omega)) ⟨_, rfl, iteT ?_⟩
                  have : namedD (.tuple [d0, .dict es]) = false := by
                    rw [named_two, hb]
                    show (true && (decide (1 ≤ es.length) && decide (es.length ≤ 6) && _)) = _
                    rw [← e0, decide_eq_false c1]; simp
                  rw [← this]; exact k H (Same.refl H)
              | _ =>
                refine iteT ?_
                refine (congrArg (fun z => Q (.bl z) H) (show namedD _ = false from ?_)).mp (k H (Same.refl H))
                rw [named_two]; simp
      · refine ifT (by simp; omega) ?_
        have : namedD (.tuple ds) = false := by
          match ds, ln with
          | [], _ => simp only [namedD]
          | [_], _ => simp only [namedD]
          | [_, _], e => exact absurd e l2
          | _ :: _ :: _ :: _, _ => simp only [namedD]
        rw [← this]; exact k H (Same.refl H)
    | _ => exact iteT (k H (Same.refl H))
theorem named_shape {d : PyData} (h : namedD d = true) : ∃ b ds, d = .tuple [.int b, .dict ds] ∧ ds.length ≤ 6 := by
  unfold namedD at h
  split at h
  · rename_i b ds
    simp only [Bool.and_eq_true] at h
    exact ⟨b, ds, rfl, of_decide_eq_true h.1.2⟩
  · cases h
end
end My

set_option linter.all false
namespace My
open PySem PySem.Spec PyProof.Rows L2
/-! ### shared books of anything: the program's look -/
abbrev sRisT : Stmt := topS 6
abbrev sFrac : Stmt := topS 8
abbrev sTrip : Stmt := topS 14
section
variable {X : Cx}
theorem op_notInF (hu : X.A.units + 9 < cLine) : OpR X (compareOp .NotIn) (fun x y H Q => ∃ (d : Addr) (kvs : List Kvv) (k : NestedKey), y = .ref d ∧ DF X.w H d kvs ∧ KeyV H k x ∧ k.depth ≤ 8 ∧ Q (.bl (!decide (k ∈ kvs.map (·.1)))) H) := by
  intro pins s σ H x y v u Q I rx ry h
  obtain ⟨d, kvs, k, rfl, hd, hk, h8, q⟩ := h
  cases (show u = Value.ref d from ry)
  obtain ⟨od, _, es, ep, _, ho, hx, hdt, hm, hE⟩ := hd.raw I.hok
  show wpAny _ _ (do return Value.bool !(← contains (.ref d) v)) _ _ s
  exact wpAny_bind (contains_any hu (hk.is I rx) h8 hm ho hx hdt (hE.ks I) (wpAny_pure ⟨.bl (!decide (k ∈ kvs.map (fun x : Kvv => x.1))), H, I.tok _, rfl, q⟩))
end
def riseD : List PyData → Bool
  | a :: b :: r => PySem.W.dataLt a b && riseD (b :: r)
  | _ => true
def fracD : PyData → Bool
  | .tuple [.int n, .int m] => decide (0 ≤ n) && decide (n ≤ m) && decide (Nat.gcd n.natAbs m.natAbs = 1)
  | _ => false
def shareD : PyData → Bool
  | .tuple [.int n, .int m] => fracD (.tuple [.int n, .int m]) && decide (0 < n) && decide (m ≤ 100)
  | _ => false
def tripD (b : Int) (ks : List PyData) : PyData → Bool
  | .tuple [.int g, .str x, s] => decide (0 ≤ g) && decide (g < b) && ks.any (strIs x) && shareD s
  | _ => false
theorem cut_one' (xs : List V) : cutV xs (some 1) none = xs.drop 1 := by
  unfold cutV
  have a1 : HT.sIx xs.length xs.length none = xs.length := rfl
  have a2 : HT.sIx xs.length 0 (some 1) = min 1 xs.length := HT.sIx_nat _ _ 1
  rw [a1, a2]
  cases xs with
  | nil => rfl
  | cons x r =>
    rw [show min 1 (x :: r).length = 1 by simp]
    rw [List.take_of_length_le (by rw [List.length_drop]; exact Nat.le_refl _)]
theorem riseD_all (l : List PyData) : ∀ (f : Nat → Bool), (∀ i a b, l[i]? = some a → l[i + 1]? = some b → f i = PySem.W.dataLt a b) → ((List.range (l.length - 1)).map f).all id = riseD l := by
  induction l with
  | nil => intro f _; rfl
  | cons a r ih =>
    intro f hf
    cases r with
    | nil => rfl
    | cons b r =>
      show ((List.range (r.length + 1)).map f).all id = (PySem.W.dataLt a b && riseD (b :: r))
      rw [List.range_succ_eq_map, List.map_cons, List.all_cons, List.map_map]
      have := ih (f ∘ Nat.succ) fun i x y e1 e2 => hf (i + 1) x y (by simpa using e1) (by simpa using e2)
      rw [show (b :: r).length - 1 = r.length from rfl] at this
      rw [this, hf 0 a b rfl rfl]
      rfl
def spRisT (w : World) : Sp := fun vs H Q _ => ∃ (a : Addr) (xs : List V) (ps : List PyData), vs = [.ref a] ∧ H a = some (.tup xs) ∧ DxAll w H xs ps ∧ ps.length ≤ 1000 ∧ (∀ d ∈ ps, (∀ e ∈ ps, PySem.W.alike d e = true) ∧ d ≠ .none ∧ d.depth ≤ 60) ∧ ∀ H', Same H H' → Q (.bl (riseD ps)) H'
def spFrac (w : World) : Sp := fun vs H Q _ => ∃ (v : V) (d : PyData), vs = [v] ∧ Dx w H v d ∧ Q (.bl (fracD d)) H
def spTrip (w : World) : Sp := fun vs H Q _ => ∃ (bk rr : Addr) (v : V) (d : PyData) (b : Int) (kvs : List Kvv) (ks : List PyData), vs = [.ref bk, v] ∧ H bk = some (.tup [.int b, .ref rr]) ∧ DF w H rr kvs ∧ DxAll w H (kvs.map fun y => y.2.1) ks ∧ Dx w H v d ∧ Q (.bl (tripD b ks d)) H
section
variable {P : Program} {w : World} {K : PySem.W.Frag} {mg : Str → Option Value} {base : Heap}
theorem scRisT : FnScope ["row", "one", "other"] ["row"] (defScope sRisT) := ⟨rfl, rfl, rfl, by decide +kernel, rfl, by decide +kernel, by decide +kernel⟩
theorem scFrac : FnScope ["thing", "top", "bottom"] ["thing"] (defScope sFrac) := ⟨rfl, rfl, rfl, by decide +kernel, rfl, by decide +kernel, by decide +kernel⟩
theorem scTrip : FnScope ["book", "thing", "base", "rows", "digit", "name", "share"] ["book", "thing"] (defScope sTrip) := ⟨rfl, rfl, rfl, by decide +kernel, rfl, by decide +kernel, by decide +kernel⟩
theorem ok_risT {f : Addr} {fd : FuncData} (F : Fun K "is_rising" "is_rising" sRisT f fd) (T : TxP mg) : FnOk P w K mg base CX0 1 f fd ["row"] (spRisT w) := by
  refine F.ok scRisT (fun vs H Q E h => ?_) (fun cdv A outer s H vs Q E hr h => ?_)
  · obtain ⟨a, xs, ps, rfl, _⟩ := h
    rfl
  · obtain ⟨a, xs, ps, rfl, ha, hx, h12, hp, k⟩ := h
    refine ⟨_, (pss_one (ps_ret (pe_callB (cr_all rfl) (by rfl) T.all boot_all (pa_cons (pe_lc (own := [("one", 1), ("other", 2)]) (g := gTup K 2 (gCons (gName 1) (gCons (gName 2) gNil))) (tt := tYes) rfl scRisT.nd (RZ.pi_zipA (by rfl) T.zip (pa_cons (pv 0) (pa_cons (pe_slice sl_tupG (pv 0) (po_some pe_int) po_none) pa_nil))) (blkOk_by (N := ["row", "one", "other"]) (sc := defScope sRisT) (by decide +kernel)) (fun _ _ _ _ _ => (pg_tup (by rfl) (pgs_cons (pg_name (i := 1) scRisT.nd rfl (Or.inl rfl)) (pgs_cons (pg_name (i := 2) scRisT.nd rfl (Or.inl rfl)) pgs_nil)))) (fun _ _ _ _ _ => pts_nil) (fun _ _ _ _ _ => (pe_cmpR (show OpR _ _ (rLtX w) from op_ltX hr.units) (pv 1) (pv 2) (nomark _)))) pa_nil)))), ?_⟩
    refine ⟨_, rfl, _, rfl, 1, rfl, H, a, xs, rfl, Same.refl H, ha, fun c G' H1 m hc => ?_⟩
    have sH := m.hh
    have hc2 := m.gh _ _ hc
    rw [cut_one'] at hc2
    refine ⟨a, c, xs, xs.drop 1, rfl, .inr ⟨SqT.of (sH _ _ ha), SqT.of hc2, fun D nD => ?_⟩⟩
    have ln := hx.len
    refine lc_gen (walk_two (K := K) (a := a) (b := c) (us := xs) (ys := xs.drop 1) rfl) (fun _ => true) (fun i => .bl (PySem.W.dataLt ((ps[i]?).getD .none) ((ps[i + 1]?).getD .none))) nD (by rw [sizeLine_eq]; omega) (fun Ha sa => ⟨SqT.of (sa _ _ (sH _ _ ha)), SqT.of (sa _ _ hc2)⟩) (fun i y Ha Hb hi sa yy Q2 R q2 r2 => ?_) fun Ha sa hD => ?_
    · obtain ⟨T', x0, x1, rfl, nT, rfl, e0, e1⟩ := yy
      dsimp only at e0 e1
      rw [List.getElem?_drop] at e1
      obtain ⟨d0, g0, q0⟩ := hx.get e0
      obtain ⟨d1, g1, q1⟩ := hx.get (show xs[i + 1]? = some x1 by rw [Nat.add_comm]; exact e1)
      have sT : Same Ha (upd Ha T' (.tup [x0, x1])) := Same.upd nT
      have q3 := q2 rfl _ sT
      rw [g0, g1] at q3
      have m0 := List.mem_of_getElem? g0
      have m1 := List.mem_of_getElem? g1
      refine ⟨T', _, rfl, SqT.of upd_same, rfl, _, _, rfl, _, _, rfl, rfl, rfl, ?_⟩
      unfold tYes
      dsimp only
      rw [if_pos rfl]
      exact ⟨_, rfl, _, rfl, d0, d1, (q0.mono (sH.trans sa)).mono sT, (q1.mono (sH.trans sa)).mono sT, (hp d0 m0).1 d1 m1, (hp d0 m0).2.1, (hp d0 m0).2.2, q3⟩
    · rw [range_all _ (fun _ => true), bools_map] at hD
      refine ⟨D, _, rfl, SqL.of hD, ?_⟩
      have e2 : min xs.length (xs.drop 1).length = ps.length - 1 := by rw [List.length_drop]; omega
      rw [e2, riseD_all ps _ fun i a b g1 g2 => by rw [g1, g2]; rfl]
      exact k Ha (sH.trans sa)
theorem ok_frac {f fWh : Addr} {fd fdWh : FuncData} (F : Fun K "is_fraction" "is_fraction" sFrac f fd) (T : TxP mg) (gG : mg "gcd" = some (.builtin "math.gcd"))
    (FWh : Fun K "is_whole" "is_whole" sWholeX fWh fdWh) (bWh : Binds K fdWh ["thing"] []) (gWh : mg "is_whole" = some (.ref fWh)) : FnOk P w K mg base CX0 2 f fd ["thing"] (spFrac w) := by
  have GWh : FnOk P w K mg base CX0 1 fWh fdWh ["thing"] (spWholeX w) := ok_wholeX FWh T
  refine F.ok scFrac (fun vs H Q E h => ?_) (fun cdv A outer s H vs Q E hr h => ?_)
  · obtain ⟨v, d, rfl, _⟩ := h
    rfl
  · obtain ⟨v, d, rfl, dv, k⟩ := h
    have hr1 := hr
    refine ⟨_, (pss_cons (ps_if (PW.pt (pw_or (pt_not (pt_val (pe_callB call_isiX (by rfl) T.isi boot_isinstance (pa_cons (pv 0) (pa_cons (pe_bltn (v := .ty "tuple") (by rfl) T.tuple boot_tuple rfl) pa_nil))))) (pw_or1 (pt_cmpR op_ne (pe_callB call_len_seq (by rfl) T.len PySem.boot_len (pa_cons (pv 0) pa_nil)) pe_int (nomark _))))) (pss_one (ps_ret pe_bl)) pss_nil)
      (pss_cons (ps_asg (pv 0) (pg_tup (by rfl) (pgs_cons (pg_name (i := 1) scFrac.nd rfl (Or.inl rfl)) (pgs_cons (pg_name (i := 2) scFrac.nd rfl (Or.inl rfl)) pgs_nil))))
      (pss_cons (ps_if (PW.pt (pw_or (pt_not (pt_val (pe_call GWh hr1 (by rfl) gWh FWh.kp bWh .nil pass0 (pa_cons (pv 1) pa_nil)))) (pw_or1 (pt_not (pt_val (pe_call GWh hr1 (by rfl) gWh FWh.kp bWh .nil pass0 (pa_cons (pv 2) pa_nil))))))) (pss_one (ps_ret pe_bl)) pss_nil)
      (pss_one (ps_ret (pe_and (pe_chain op_le op_le pe_int (pv 1) (pv 2)) (pe_one (pe_cmpR op_eq (pe_callBfun cr_gcd (by rfl) gG (pa_cons (pv 1) (pa_cons (pv 2) pa_nil))) pe_int (nomark _))))))))), ?_⟩
    refine ⟨_, rfl, _, _, _, _, rfl, dv, kit_tuple _, _, rfl, ?_⟩
    cases dv with
    | tup h1 h2 =>
      rename_i a xs ds
      refine iteF ⟨_, rfl, a, _, rfl, .inr (SqT.of h1), rfl, _, rfl, ?_⟩
      have ln := h2.len
      by_cases l2 : xs.length = 2
      · refine ifF (by simp [l2]) ?_
        obtain ⟨d0, d1, rfl⟩ : ∃ d0 d1, ds = [d0, d1] := by
          match ds, (ln.symm.trans l2 : ds.length = 2) with
          | [d0, d1], _ => exact ⟨d0, d1, rfl⟩
        cases h2 with
        | cons q0 r0 =>
          cases r0 with
          | cons q1 r1 =>
            cases r1
            rename_i v0 v1
            refine ⟨_, rfl, a, _, rfl, SqT.of h1, rfl, _, _, rfl, _, _, rfl, rfl, ?_⟩
            refine ⟨_, rfl, v0, d0, rfl, q0, _, rfl, ?_⟩
            cases hb : isT "int" d0 with
            | false =>
              refine iteT ?_
              have : fracD (.tuple [d0, d1]) = false := by cases d0 <;> first | rfl | exact Bool.noConfusion (show true = false from hb)
              rw [this] at k; exact k
            | true =>
              refine iteF ⟨_, rfl, v1, d1, rfl, q1, _, rfl, ?_⟩
              obtain ⟨n, rfl⟩ : ∃ n, d0 = .int n := by cases d0 <;> first | exact ⟨_, rfl⟩ | exact Bool.noConfusion (show false = true from hb)
              cases hb1 : isT "int" d1 with
              | false =>
                refine iteT ?_
                have : fracD (.tuple [.int n, d1]) = false := by cases d1 <;> first | rfl | exact Bool.noConfusion (show true = false from hb1)
                rw [this] at k; exact k
              | true =>
                obtain ⟨m, rfl⟩ : ∃ m, d1 = .int m := by cases d1 <;> first | exact ⟨_, rfl⟩ | exact Bool.noConfusion (show false = true from hb1)
                cases q0; cases q1
                refine iteF ⟨_, rfl, _, _, rfl, rfl, _, rfl, ?_⟩
                by_cases c0 : 0 ≤ n
                · refine ifT (decide_eq_true c0) ⟨_, rfl, _, _, rfl, rfl, _, rfl, ?_⟩
                  by_cases c1 : n ≤ m
                  · refine ifT (decide_eq_true c1) ⟨_, rfl, _, rfl, n, m, rfl, rfl, ?_⟩
                    have : fracD (.tuple [.int n, .int m]) = decide (V.int ((Nat.gcd n.natAbs m.natAbs : Nat) : Int) = V.int 1) := by
                      show (decide (0 ≤ n) && decide (n ≤ m) && decide (Nat.gcd n.natAbs m.natAbs = 1)) = _
                      rw [decide_eq_true c0, decide_eq_true c1, Bool.true_and, Bool.true_and]
                      by_cases g : Nat.gcd n.natAbs m.natAbs = 1
                      · rw [decide_eq_true g, decide_eq_true (show V.int ((Nat.gcd n.natAbs m.natAbs : Nat) : Int) = V.int 1 by rw [g]; rfl)]
                      · rw [decide_eq_false g, decide_eq_false (fun z => g (by have := V.int.inj z; omega))]
                    rw [this] at k; exact k
                  · refine ifF (decide_eq_false c1) ?_
                    have : fracD (.tuple [.int n, .int m]) = false := by
                      show (decide (0 ≤ n) && decide (n ≤ m) && _) = _
                      rw [decide_eq_false c1, Bool.and_false, Bool.false_and]
                    rw [this] at k; exact k
                · refine ifF (decide_eq_false c0) ⟨_, rfl, ifF rfl ?_⟩
                  have : fracD (.tuple [.int n, .int m]) = false := by
                    show (decide (0 ≤ n) && _ && _) = _
                    rw [decide_eq_false c0, Bool.false_and, Bool.false_and]
                  rw [this] at k; exact k
      · refine ifT (by
          have : ¬ (V.int (xs.length : Int) = V.int 2) := fun z => l2 (by have := V.int.inj z; omega)
          rw [decide_eq_false this]; rfl) ?_
        have : fracD (.tuple ds) = false := by
          match ds, ln with
          | [], _ => rfl
          | [_], _ => cases ‹PyData› <;> rfl
          | [d0, d1], e => exact absurd e l2
          | d0 :: d1 :: d2 :: r, _ => cases d0 <;> cases d1 <;> rfl
        rw [this] at k; exact k
    | _ => exact iteT k
end
end My

set_option linter.all false
namespace My
open PySem PySem.Spec PyProof.Rows L2
section
variable {P : Program} {w : World} {K : PySem.W.Frag} {mg : Str → Option Value} {base : Heap}
theorem trip_not {b : Int} {ks : List PyData} {d0 d1 d2 : PyData} (h : ∀ g x, d0 = .int g → d1 = .str x → (decide (0 ≤ g) && decide (g < b) && ks.any (strIs x) && shareD d2) = false) : tripD b ks (.tuple [d0, d1, d2]) = false := by
  cases d0 <;> first | rfl | (cases d1 <;> first | rfl | exact h _ _ rfl rfl)
theorem fracD_shape {d : PyData} (h : fracD d = true) : ∃ n m, d = .tuple [.int n, .int m] := by
  match d, h with
  | .tuple [.int n, .int m], _ => exact ⟨n, m, rfl⟩
theorem shareD_no {d : PyData} (h : fracD d = false) : shareD d = false := by
  match d, h with
  | .tuple [.int n, .int m], h => show (fracD _ && _ && _) = false; rw [h]; rfl
  | .none, _ => rfl
  | .bool _, _ => rfl
  | .int _, _ => rfl
  | .str _, _ => rfl
  | .list _, _ => rfl
  | .dict _, _ => rfl
  | .tuple [], _ => rfl
  | .tuple [a], _ => cases a <;> rfl
  | .tuple (a :: b :: c :: r), _ => cases a <;> cases b <;> rfl
  | .tuple [.none, _], _ => rfl
  | .tuple [.bool _, _], _ => rfl
  | .tuple [.str _, _], _ => rfl
  | .tuple [.list _, _], _ => rfl
  | .tuple [.tuple _, _], _ => rfl
  | .tuple [.dict _, _], _ => rfl
  | .tuple [.int _, .none], _ => rfl
  | .tuple [.int _, .bool _], _ => rfl
  | .tuple [.int _, .str _], _ => rfl
  | .tuple [.int _, .list _], _ => rfl
  | .tuple [.int _, .tuple _], _ => rfl
  | .tuple [.int _, .dict _], _ => rfl
theorem ok_trip {f fWh fFr : Addr} {fd fdWh fdFr : FuncData} (F : Fun K "_is_triple" "_is_triple" sTrip f fd) (T : TxP mg) (gMB : ∃ t, mg "MOST_BOTTOM" = some (.int 100 t))
    (FWh : Fun K "is_whole" "is_whole" sWholeX fWh fdWh) (bWh : Binds K fdWh ["thing"] []) (gWh : mg "is_whole" = some (.ref fWh))
    (FFr : Fun K "is_fraction" "is_fraction" sFrac fFr fdFr) (GFr : FnOk P w K mg base CX0 2 fFr fdFr ["thing"] (spFrac w)) (bFr : Binds K fdFr ["thing"] []) (gFr : mg "is_fraction" = some (.ref fFr)) : FnOk P w K mg base CX0 3 f fd ["book", "thing"] (spTrip w) := by
  have GWh : FnOk P w K mg base CX0 1 fWh fdWh ["thing"] (spWholeX w) := ok_wholeX FWh T
  obtain ⟨tk, gMB⟩ := gMB
  refine F.ok scTrip (fun vs H Q E h => ?_) (fun cdv A outer s H vs Q E hr h => ?_)
  · obtain ⟨bk, rr, v, d, b, kvs, ks, rfl, _⟩ := h
    rfl
  · obtain ⟨bk, rr, v, d, b, kvs, ks, rfl, hb, hdf, hks, dv, k⟩ := h
    have hr1 : Room 1 _ := hr.mono (by decide)
    have hu9 := Nat.lt_trans (Nat.add_lt_add_left (show 9 < 64 by decide) _) hr.units
    refine ⟨_, (pss_cons (ps_if (PW.pt (pw_or (pt_not (pt_val (pe_callB call_isiX (by rfl) T.isi boot_isinstance (pa_cons (pv 1) (pa_cons (pe_bltn (v := .ty "tuple") (by rfl) T.tuple boot_tuple rfl) pa_nil))))) (pw_or1 (pt_cmpR op_ne (pe_callB call_len_seq (by rfl) T.len PySem.boot_len (pa_cons (pv 1) pa_nil)) pe_int (nomark _))))) (pss_one (ps_ret pe_bl)) pss_nil)
      (pss_cons (ps_asg (pv 0) (pg_tup (by rfl) (pgs_cons (pg_name (i := 2) scTrip.nd rfl (Or.inl rfl)) (pgs_cons (pg_name (i := 3) scTrip.nd rfl (Or.inl rfl)) pgs_nil))))
      (pss_cons (ps_asg (pv 1) (pg_tup (by rfl) (pgs_cons (pg_name (i := 4) scTrip.nd rfl (Or.inl rfl)) (pgs_cons (pg_name (i := 5) scTrip.nd rfl (Or.inl rfl)) (pgs_cons (pg_name (i := 6) scTrip.nd rfl (Or.inl rfl)) pgs_nil)))))
      (pss_cons (ps_if (PW.pt (pw_or (pt_not (pt_val (pe_call GWh hr1 (by rfl) gWh FWh.kp bWh .nil pass0 (pa_cons (pv 4) pa_nil)))) (pw_or1 (pt_not (pt_chain op_le op_lt pe_int (pv 4) (pv 2)))))) (pss_one (ps_ret pe_bl)) pss_nil)
      (pss_cons (ps_if (PW.pt (pw_or (pt_not (pt_val (pe_callB call_isiX (by rfl) T.isi boot_isinstance (pa_cons (pv 5) (pa_cons (pe_bltn (v := .ty "str") (by rfl) T.str boot_str rfl) pa_nil))))) (pw_or1 (pt_cmpR (op_notInF hu9) (pv 5) (pv 3) (by rfl))))) (pss_one (ps_ret pe_bl)) pss_nil)
      (pss_one (ps_ret (pe_and (pe_call GFr hr (by rfl) gFr FFr.kp bFr .nil pass0 (pa_cons (pv 6) pa_nil)) (pe_and (pe_cmpR op_gt (pe_ix ix_tup (pv 6) pe_int (fun _ _ => rfl)) pe_int (nomark _)) (pe_one (pe_cmpR op_le (pe_ix ix_tup (pv 6) pe_int (fun _ _ => rfl)) (pe_glob (v := .int 100) (by rfl) gMB ⟨_, rfl⟩) (nomark _)))))))))))), ?_⟩
    refine ⟨_, rfl, _, _, _, _, rfl, dv, kit_tuple _, _, rfl, ?_⟩
    cases dv with
    | tup h1 h2 =>
      rename_i a xs ds
      refine iteF ⟨_, rfl, a, _, rfl, .inr (SqT.of h1), rfl, _, rfl, ?_⟩
      have ln := h2.len
      by_cases l3 : xs.length = 3
      · refine ifF (by simp [l3]) ?_
        obtain ⟨d0, d1, d2, rfl⟩ : ∃ d0 d1 d2, ds = [d0, d1, d2] := by
          match ds, (ln.symm.trans l3 : ds.length = 3) with
          | [d0, d1, d2], _ => exact ⟨d0, d1, d2, rfl⟩
        cases h2 with
        | cons q0 r0 =>
          cases r0 with
          | cons q1 r1 =>
            cases r1 with
            | cons q2 r2 =>
              cases r2
              rename_i v0 v1 v2
              refine ⟨_, rfl, bk, _, rfl, SqT.of hb, rfl, _, _, rfl, _, _, rfl, rfl, ?_⟩
              refine ⟨_, rfl, a, _, rfl, SqT.of h1, rfl, _, _, rfl, _, _, rfl, _, _, rfl, rfl, ?_⟩
              refine ⟨_, rfl, v0, d0, rfl, q0, _, rfl, ?_⟩
              have no : (∀ g x, d0 = .int g → d1 = .str x → (decide (0 ≤ g) && decide (g < b) && ks.any (strIs x) && shareD d2) = false) → Q (.bl false) H := fun h => by rw [trip_not h] at k; exact k
              by_cases i0 : ∃ g, d0 = .int g
              · obtain ⟨g, rfl⟩ := i0
                cases q0
                refine iteF ⟨_, rfl, _, _, rfl, rfl, _, rfl, ?_⟩
                by_cases g0 : 0 ≤ g
                · refine ifT (decide_eq_true g0) ⟨_, rfl, _, _, rfl, rfl, _, rfl, ?_⟩
                  by_cases g1 : g < b
                  · refine ifF (by rw [decide_eq_true g1]; rfl) ?_
                    refine ⟨_, rfl, _, _, _, _, rfl, q1, kit_strX _, _, rfl, ?_⟩
                    by_cases i1 : ∃ x, d1 = .str x
                    · obtain ⟨x, rfl⟩ := i1
                      cases q1
                      refine iteF ⟨_, rfl, _, rfl, rr, kvs, .text x, rfl, hdf, .str x, by show 0 ≤ 8; decide, _, rfl, ?_⟩
                      rw [keys_any x hdf.keyv hks]
                      cases an : ks.any (strIs x) with
                      | false => exact ifT rfl (no fun g' x' e1 e2 => by cases e2; rw [an]; simp)
                      | true =>
                        refine ifF rfl ?_
                        refine ⟨_, rfl, v2, d2, rfl, q2, ?_⟩
                        have ek : tripD b ks (.tuple [.int g, .str x, d2]) = shareD d2 := by
                          show (decide (0 ≤ g) && decide (g < b) && ks.any (strIs x) && shareD d2) = _
                          rw [decide_eq_true g0, decide_eq_true g1, an]; rfl
                        rw [ek] at k
                        cases fr : fracD d2 with
                        | false =>
                          rw [shareD_no fr] at k
                          exact ⟨_, rfl, ifF rfl k⟩
                        | true =>
                          obtain ⟨n, m, rfl⟩ := fracD_shape fr
                          have e2 : shareD (.tuple [.int n, .int m]) = (decide (0 < n) && decide (m ≤ 100)) := by
                            show (fracD _ && _ && _) = _
                            rw [fr]; rfl
                          rw [e2] at k
                          cases q2 with
                          | tup z1 z2 =>
                            cases z2 with
                            | cons y0 y1 =>
                              cases y1 with
                              | cons y2 y3 =>
                                cases y3; cases y0; cases y2
                                refine ⟨_, rfl, ifT rfl ?_⟩
                                refine ⟨_, rfl, _, _, 0, .int n, rfl, rfl, SqT.of z1, atI_nat (j := 0) rfl, _, _, rfl, rfl, _, rfl, ?_⟩
                                by_cases n0 : 0 < n
                                · refine ifT (decide_eq_true n0) ⟨_, rfl, _, _, 1, .int m, rfl, rfl, SqT.of z1, atI_nat (j := 1) rfl, _, _, rfl, rfl, ?_⟩
                                  rw [decide_eq_true n0, Bool.true_and] at k
                                  exact k
                                · refine ifF (decide_eq_false n0) ?_
                                  rw [decide_eq_false n0, Bool.false_and] at k
                                  exact k
                    · have : isT "str" d1 = false := by cases d1 <;> first | rfl | exact absurd ⟨_, rfl⟩ i1
                      rw [this]
                      exact iteT (no fun g' x' _ e2 => absurd ⟨x', e2⟩ i1)
                  · refine ifT (by rw [decide_eq_false g1]; rfl) (no fun g' x' e1 _ => by cases e1; rw [decide_eq_false g1]; simp)
                · refine ifF (decide_eq_false g0) ⟨_, rfl, iteT (no fun g' x' e1 _ => by cases e1; rw [decide_eq_false g0]; simp)⟩
              · have : isT "int" d0 = false := by cases d0 <;> first | rfl | exact absurd ⟨_, rfl⟩ i0
                rw [this]
                exact iteT (no fun g' x' e1 _ => absurd ⟨g', e1⟩ i0)
      · refine ifT (by
          have : ¬ (V.int (xs.length : Int) = V.int 3) := fun z => l3 (by have := V.int.inj z; omega)
          rw [decide_eq_false this]; rfl) ?_
        have : tripD b ks (.tuple ds) = false := by
          match ds, ln with
          | [], _ => rfl
          | [d0], _ => cases d0 <;> rfl
          | [d0, d1], _ => cases d0 <;> cases d1 <;> rfl
          | [_, _, _], e => exact absurd e l3
          | d0 :: d1 :: d2 :: d3 :: r, _ => cases d0 <;> cases d1 <;> rfl
        rw [this] at k; exact k
    | _ => exact iteT k
end
end My

set_option linter.all false
namespace My
open PySem PySem.Spec PyProof.Rows L2
abbrev sCbot : Stmt := topS 15
abbrev sInp : Stmt := topS 16
/-! ### shares told in parts -/
def lcmS (l : List (Int × Int)) : Nat := l.foldl (fun a s => Nat.lcm a s.2.natAbs) 1
structure ShL (H : Hp) (a : Addr) (l : List (Int × Int)) : Prop where
  ex : ∃ qs : List Addr, H a = some (.lst (qs.map V.ref)) ∧ qs.length = l.length ∧ ∀ (i : Nat) (q : Addr) (s : Int × Int), qs[i]? = some q → l[i]? = some s → H q = some (.tup [.int s.1, .int s.2])
  len : l.length ≤ 12
  ok : ∀ s ∈ l, 0 < s.1 ∧ s.1 ≤ 100 ∧ 0 < s.2 ∧ s.2 ≤ 100
theorem ShL.same {H H' : Hp} {a : Addr} {l : List (Int × Int)} (h : ShL H a l) (e : Same H H') : ShL H' a l := by
  obtain ⟨qs, h1, h2, h3⟩ := h.ex
  exact ⟨⟨qs, e _ _ h1, h2, fun i q s g1 g2 => e _ _ (h3 i q s g1 g2)⟩, h.len, h.ok⟩
def spCbot : Sp := fun vs H Q _ => ∃ (a : Addr) (l : List (Int × Int)), vs = [.ref a] ∧ ShL H a l ∧ Q (.int ((lcmS l : Nat) : Int)) H
def spInp : Sp := fun vs H Q _ => ∃ (W : Nat) (a : Addr) (l : List (Int × Int)), vs = [.int W, .ref a] ∧ ShL H a l ∧ ∀ (D : Addr) (H' : Hp), Same H H' → H' D = some (.lst ((l.map fun s => s.1 * ((W : Int) / s.2)).map V.int)) → Q (.ref D) H'
theorem lcm_le : ∀ (l : List (Int × Int)) (k : Nat) (x : Nat), x ≤ 100 ^ k → (∀ s ∈ l, 0 < s.2 ∧ s.2 ≤ 100) → 0 < x → l.foldl (fun a s => Nat.lcm a s.2.natAbs) x ≤ 100 ^ (k + l.length) ∧ 0 < l.foldl (fun a s => Nat.lcm a s.2.natAbs) x
  | [], k, x, h, _, h0 => ⟨h, h0⟩
  | s :: r, k, x, h, hs, h0 => by
    have h1 := hs s List.mem_cons_self
    have p0 : 0 < s.2.natAbs := by omega
    have le : Nat.lcm x s.2.natAbs ≤ 100 ^ (k + 1) := by
      have a1 : Nat.lcm x s.2.natAbs ≤ x * s.2.natAbs := Nat.le_of_dvd (Nat.mul_pos h0 p0) (Nat.lcm_dvd (Nat.dvd_mul_right _ _) (Nat.dvd_mul_left _ _))
      have a2 : x * s.2.natAbs ≤ 100 ^ k * 100 := Nat.mul_le_mul h (by omega)
      rw [Nat.pow_succ]; exact Nat.le_trans a1 a2
    have := lcm_le r (k + 1) _ le (fun y hy => hs y (List.mem_cons_of_mem _ hy)) (Nat.lcm_pos h0 p0)
    rw [List.length_cons, show k + (r.length + 1) = k + 1 + r.length by omega]
    exact this
section
variable {P : Program} {w : World} {K : PySem.W.Frag} {mg : Str → Option Value} {base : Heap}
theorem scCbot : FnScope ["fractions", "bottom", "_", "own"] ["fractions"] (defScope sCbot) := ⟨rfl, rfl, rfl, by decide +kernel, rfl, by decide +kernel, by decide +kernel⟩
theorem scInp : FnScope ["whole", "fractions", "top", "bottom"] ["whole", "fractions"] (defScope sInp) := ⟨rfl, rfl, rfl, by decide +kernel, rfl, by decide +kernel, by decide +kernel⟩
theorem ok_cbot {f : Addr} {fd : FuncData} (F : Fun K "_common_bottom" "_common_bottom" sCbot f fd) (gL : mg "lcm" = some (.builtin "math.lcm")) : FnOk P w K mg base CX0 1 f fd ["fractions"] spCbot := by
  refine F.ok scCbot (fun vs H Q E h => ?_) (fun cdv A outer s H vs Q E hr h => ?_)
  · obtain ⟨a, l, rfl, _⟩ := h
    rfl
  · obtain ⟨a, l, rfl, S, k⟩ := h
    obtain ⟨qs, h1, h2, h3⟩ := S.ex
    refine ⟨_, (pss_cons (ps_set (i := 1) scCbot.nd rfl (Or.inl rfl) pe_int)
      (pss_cons (ps_for PassesOwn.never rfl (pi_list (pv 0)) (pg_tup (by rfl) (pgs_cons (pg_name (i := 2) scCbot.nd rfl (Or.inl rfl)) (pgs_cons (pg_name (i := 3) scCbot.nd rfl (Or.inl rfl)) pgs_nil))) (pss_one (ps_set (i := 1) scCbot.nd rfl (Or.inl rfl) (pe_callBfun cr_lcm (by rfl) gL (pa_cons (pv 1) (pa_cons (pv 3) pa_nil))))))
      (pss_one (ps_ret (pv 1))))), ?_⟩
    refine ⟨_, rfl, a, rfl, ⟨_, SqL.of h1⟩, for_it (walk_list (K := K) (a := a) (xs := qs.map V.ref)) (fun i σ Ho => (∃ y2 y3 : Option V, σ = [some (.ref a), some (.int ((lcmS (l.take i) : Nat) : Int)), y2, y3]) ∧ Ho = H) ?_ ?_ ?_ ?_⟩
    · exact ⟨⟨_, _, rfl⟩, rfl⟩
    · rintro i σ Ho _ ⟨_, rfl⟩
      exact SqL.of h1
    · rintro i x σ Ho Ho' hi ⟨⟨y2, y3, rfl⟩, rfl⟩ ⟨rfl, hx⟩
      rw [List.length_map] at hi
      obtain ⟨q, hq, rfl⟩ : ∃ q, qs[i]? = some q ∧ x = .ref q := by
        rw [List.getElem?_map, List.getElem?_eq_getElem hi] at hx
        exact ⟨qs[i], List.getElem?_eq_getElem hi, (Option.some.inj hx).symm⟩
      have hl : i < l.length := by omega
      have hs := List.getElem?_eq_getElem hl
      have ht := h3 i q _ hq hs
      have sok := S.ok _ (List.mem_of_getElem? hs)
      generalize l[i] = sx at hs ht sok
      have tk : l.take (i + 1) = l.take i ++ [sx] := by rw [List.take_add_one, hs]; rfl
      have b1 := lcm_le (l.take i) 0 1 (Nat.le_refl _) (fun y hy => (S.ok y (List.mem_of_mem_take hy)).2.2) (by decide)
      have bd : lcmS (l.take i) < 2 ^ 6000 := by
        refine Nat.lt_of_le_of_lt b1.1 (Nat.lt_of_le_of_lt (Nat.pow_le_pow_right (by decide) (show 0 + (l.take i).length ≤ 12 by rw [List.length_take]; have := S.len; omega)) ?_)
        exact Nat.lt_of_lt_of_le (show 100 ^ 12 < 2 ^ 100 by decide) (Nat.pow_le_pow_right (by decide) (by decide))
      have ob : sx.2.natAbs < 2 ^ 6000 := Nat.lt_of_le_of_lt (show sx.2.natAbs ≤ 100 by omega) (Nat.lt_of_lt_of_le (show 100 < 2 ^ 100 by decide) (Nat.pow_le_pow_right (by decide) (by decide)))
      have e2 : V.int sx.2 = V.int ((sx.2.natAbs : Nat) : Int) := by congr 1; omega
      refine ⟨q, _, rfl, SqT.of ht, rfl, _, _, rfl, _, _, rfl, rfl, ?_⟩
      refine ⟨_, rfl, _, rfl, lcmS (l.take i), sx.2.natAbs, by rw [e2], bd, ob, ?_⟩
      refine ⟨⟨some (.int sx.1), some (.int sx.2), ?_⟩, rfl⟩
      rw [tk]
      unfold lcmS
      rw [List.foldl_append]; rfl
    · rintro σ Ho ⟨⟨y2, y3, rfl⟩, rfl⟩
      rw [List.length_map, h2, List.take_length]
      exact ⟨_, rfl, k⟩
theorem ok_inp {f : Addr} {fd : FuncData} (F : Fun K "_in_parts" "_in_parts" sInp f fd) : FnOk P w K mg base CX0 1 f fd ["whole", "fractions"] spInp := by
  refine F.ok scInp (fun vs H Q E h => ?_) (fun cdv A outer s H vs Q E hr h => ?_)
  · obtain ⟨W, a, l, rfl, _⟩ := h
    rfl
  · obtain ⟨W, a, l, rfl, S, k⟩ := h
    obtain ⟨qs, h1, h2, h3⟩ := S.ex
    have l12 := S.len
    refine ⟨_, (pss_one (ps_ret (pe_lc (own := [("top", 2), ("bottom", 3)]) (g := gTup K 2 (gCons (gName 2) (gCons (gName 3) gNil))) (tt := tYes) rfl scInp.nd (pi_list (pv 1)) (blkOk_by (N := ["whole", "fractions", "top", "bottom"]) (sc := defScope sInp) (by decide +kernel)) (fun _ _ _ _ _ => (pg_tup (by rfl) (pgs_cons (pg_name (i := 2) scInp.nd rfl (Or.inl rfl)) (pgs_cons (pg_name (i := 3) scInp.nd rfl (Or.inl rfl)) pgs_nil)))) (fun _ _ _ _ _ => pts_nil) (fun _ _ _ _ _ => (pe_op (show OpR _ _ (rI CMul fun i j => .int (i * j)) from op_mul) (pv 2) (pe_op op_fdivW (pv 0) (pv 3))))))), ?_⟩
    refine ⟨_, rfl, a, rfl, ⟨_, SqL.of h1⟩, fun D nD => ?_⟩
    refine lc_gen (walk_list (K := K) (a := a) (xs := qs.map V.ref)) (fun _ => true) (fun i => .int (((l[i]?).getD (0, 1)).1 * ((W : Int) / ((l[i]?).getD (0, 1)).2))) nD (by rw [List.length_map, sizeLine_eq]; omega) (fun Ha sa => SqL.of (sa _ _ h1)) (fun i x Ha Hb hi sa yy Q2 R q2 r2 => ?_) fun Ha sa hD => ?_
    · obtain ⟨rfl, hx⟩ := yy
      rw [List.length_map] at hi
      obtain ⟨q, hq, rfl⟩ : ∃ q, qs[i]? = some q ∧ x = .ref q := by
        rw [List.getElem?_map, List.getElem?_eq_getElem hi] at hx
        exact ⟨qs[i], List.getElem?_eq_getElem hi, (Option.some.inj hx).symm⟩
      have hl : i < l.length := by omega
      have hs := List.getElem?_eq_getElem hl
      have ht := sa _ _ (h3 i q _ hq hs)
      have sok := S.ok _ (List.mem_of_getElem? hs)
      have q3 := q2 rfl
      rw [hs] at q3
      generalize l[i] = sx at hs ht sok q3
      refine ⟨q, _, rfl, SqT.of ht, rfl, _, _, rfl, _, _, rfl, rfl, rfl, ?_⟩
      unfold tYes
      dsimp only
      rw [if_pos rfl]
      exact ⟨_, rfl, _, rfl, _, rfl, _, _, rfl, rfl, ⟨sok.2.2.1, log_small (Nat.lt_of_le_of_lt (show sx.2.natAbs ≤ 1000 by omega) (by decide)) sok.2.2.1⟩, _, _, rfl, rfl, .inl ⟨by omega, by omega⟩, q3 Hb (Same.refl _)⟩
    · rw [range_all _ (fun _ => true), List.length_map] at hD
      refine k D Ha sa ?_
      rw [hD, h2]
      congr 2
      refine List.ext_getElem? fun i => ?_
      rw [List.getElem?_map, List.getElem?_map, List.getElem?_map]
      by_cases c : i < l.length
      · rw [List.getElem?_range c, List.getElem?_eq_getElem c]
        show some (V.int (((l[i]?).getD (0, 1)).1 * ((W : Int) / ((l[i]?).getD (0, 1)).2))) = _
        rw [List.getElem?_eq_getElem c]; rfl
      · rw [List.getElem?_eq_none (by rw [List.length_range]; omega), List.getElem?_eq_none (by omega)]; rfl
end
end My

set_option linter.all false
namespace My
open PySem PySem.Spec PyProof.Rows L2
abbrev sRowS : Stmt := topS 13
abbrev sShd : Stmt := topS 12
/-! ### shared books of anything, at last -/
def shareOf : PyData → Int × Int
  | .tuple [_, _, .tuple [.int n, .int m]] => (n, m)
  | _ => (0, 1)
def sumOk (l : List (Int × Int)) : Bool := decide ((l.map fun s => s.1 * (((lcmS l : Nat) : Int) / s.2)).sum = ((lcmS l : Nat) : Int))
def rowS (b : Int) (ks : List PyData) : PyData → Bool
  | .tuple ps => decide (1 ≤ ps.length) && decide (ps.length ≤ 12) && ps.all (tripD b ks) && riseD ps && sumOk (ps.map shareOf)
  | _ => false
def rowsSD : PyData → Bool
  | .tuple [.int b, .dict ds] => (ds.map (·.2)).all (rowS b (ds.map (·.1)))
  | _ => false
def isSharedD (d : PyData) : Bool := namedD d && rowsSD d
theorem tripD_shape {b : Int} {ks : List PyData} {d : PyData} (h : tripD b ks d = true) : ∃ g x n m, d = .tuple [.int g, .str x, .tuple [.int n, .int m]] ∧ 0 < n ∧ n ≤ m ∧ m ≤ 100 := by
  unfold tripD at h
  split at h
  · rename_i g x s
    have hs : shareD s = true := (Bool.and_eq_true _ _ ▸ h).2
    unfold shareD at hs
    split at hs
    · rename_i n m
      simp only [Bool.and_eq_true, decide_eq_true_eq] at hs
      have hf := hs.1.1
      have hf' : (decide (0 ≤ n) && decide (n ≤ m) && decide (Nat.gcd n.natAbs m.natAbs = 1)) = true := hf
      simp only [Bool.and_eq_true, decide_eq_true_eq] at hf'
      exact ⟨g, x, n, m, rfl, hs.1.2, hf'.1.2, hs.2⟩
    · cases hs
  · cases h
theorem trip_alike {b : Int} {ks : List PyData} {d e : PyData} (h : tripD b ks d = true) (h2 : tripD b ks e = true) : PySem.W.alike d e = true := by
  obtain ⟨g, x, n, m, rfl, _⟩ := tripD_shape h
  obtain ⟨g', x', n', m', rfl, _⟩ := tripD_shape h2
  simp [PySem.W.alike, PySem.W.alikeAll]
def spRowS (w : World) : Sp := fun vs H Q _ => ∃ (bk rr : Addr) (v : V) (d : PyData) (b : Int) (kvs : List Kvv) (ks : List PyData), vs = [.ref bk, v] ∧ H bk = some (.tup [.int b, .ref rr]) ∧ DF w H rr kvs ∧ DxAll w H (kvs.map fun y => y.2.1) ks ∧ Dx w H v d ∧ ∀ H', Same H H' → Q (.bl (rowS b ks d)) H'
def spShd (w : World) : Sp := fun vs H Q _ => ∃ (v : V) (d : PyData), vs = [v] ∧ Dx w H v d ∧ FineB d ∧ ∀ H', Same H H' → Q (.bl (isSharedD d)) H'
section
variable {P : Program} {w : World} {K : PySem.W.Frag} {mg : Str → Option Value} {base : Heap}
theorem scRowS : FnScope ["book", "row", "triple", "shares", "whole", "_", "share"] ["book", "row"] (defScope sRowS) := ⟨rfl, rfl, rfl, by decide +kernel, rfl, by decide +kernel, by decide +kernel⟩
theorem scShd : FnScope ["thing", "row"] ["thing"] (defScope sShd) := ⟨rfl, rfl, rfl, by decide +kernel, rfl, by decide +kernel, by decide +kernel⟩
theorem ok_isrowS {f fTr fRi fCb fIp : Addr} {fd fdTr fdRi fdCb fdIp : FuncData} (F : Fun K "_is_row" "_is_row" sRowS f fd) (T : TxP mg) (ms : mg "sum" = none) (gMT : ∃ t, mg "MOST_TRIPLES" = some (.int 12 t))
    (FTr : Fun K "_is_triple" "_is_triple" sTrip fTr fdTr) (GTr : FnOk P w K mg base CX0 3 fTr fdTr ["book", "thing"] (spTrip w)) (bTr : Binds K fdTr ["book", "thing"] []) (gTr : mg "_is_triple" = some (.ref fTr))
    (FRi : Fun K "is_rising" "is_rising" sRisT fRi fdRi) (bRi : Binds K fdRi ["row"] []) (gRi : mg "is_rising" = some (.ref fRi))
    (FCb : Fun K "_common_bottom" "_common_bottom" sCbot fCb fdCb) (GCb : FnOk P w K mg base CX0 1 fCb fdCb ["fractions"] spCbot) (bCb : Binds K fdCb ["fractions"] []) (gCb : mg "_common_bottom" = some (.ref fCb))
    (FIp : Fun K "_in_parts" "_in_parts" sInp fIp fdIp) (GIp : FnOk P w K mg base CX0 1 fIp fdIp ["whole", "fractions"] spInp) (bIp : Binds K fdIp ["whole", "fractions"] []) (gIp : mg "_in_parts" = some (.ref fIp)) :
    FnOk P w K mg base CX0 4 f fd ["book", "row"] (spRowS w) := by
  have GRi : FnOk P w K mg base CX0 1 fRi fdRi ["row"] (spRisT w) := ok_risT FRi T
  obtain ⟨tk, gMT⟩ := gMT
  refine F.ok scRowS (fun vs H Q E h => ?_) (fun cdv A outer s H vs Q E hr h => ?_)
  · obtain ⟨bk, rr, v, d, b, kvs, ks, rfl, _⟩ := h
    rfl
  · obtain ⟨bk, rr, v, d, b, kvs, ks, rfl, hb, hdf, hks, dv, k⟩ := h
    have hr1 : Room 1 _ := hr.mono (by decide)
    refine ⟨_, (pss_cons (ps_if (PW.pt (pw_or (pt_not (pt_val (pe_callB call_isiX (by rfl) T.isi boot_isinstance (pa_cons (pv 1) (pa_cons (pe_bltn (v := .ty "tuple") (by rfl) T.tuple boot_tuple rfl) pa_nil))))) (pw_or1 (pt_not (pt_chain op_le op_le pe_int (pe_callB call_len_seq (by rfl) T.len PySem.boot_len (pa_cons (pv 1) pa_nil)) (pe_glob (v := .int 12) (by rfl) gMT ⟨_, rfl⟩)))))) (pss_one (ps_ret pe_bl)) pss_nil)
      (pss_cons (ps_if (PW.pt (pw_or (pt_not (pt_val (pe_callB (cr_all rfl) (by rfl) T.all boot_all (pa_cons (pe_lc (own := [("triple", 2)]) (g := gName 2) (tt := tYes) rfl scRowS.nd (pi_tup (pv 1)) (blkOk_by (N := ["book", "row", "triple", "shares", "whole", "_", "share"]) (sc := defScope sRowS) (by decide +kernel)) (fun _ _ _ _ _ => (pg_name (i := 2) scRowS.nd rfl (Or.inl rfl))) (fun _ _ _ _ _ => pts_nil) (fun _ _ _ _ _ => (pe_call GTr hr (by rfl) gTr FTr.kp bTr .nil pass0 (pa_cons (pv 0) (pa_cons (pv 2) pa_nil))))) pa_nil)))) (pw_or1 (pt_not (pt_val (pe_call GRi hr1 (by rfl) gRi FRi.kp bRi .nil pass0 (pa_cons (pv 1) pa_nil))))))) (pss_one (ps_ret pe_bl)) pss_nil)
      (pss_cons (ps_setLc (i := 3) (own := [("_", 5), ("share", 6)]) (g := gTup K 3 (gCons (gName 5) (gCons (gName 5) (gCons (gName 6) gNil)))) (tt := tYes) rfl scRowS.nd rfl (by rfl) (sw_true (by rfl) (by rfl) (by rfl) (by rfl)) (pi_tup (pv 1)) (blkOk_by (N := ["book", "row", "triple", "shares", "whole", "_", "share"]) (sc := defScope sRowS) (by decide +kernel)) (fun _ _ _ _ _ => (pg_tup (by rfl) (pgs_cons (pg_name (i := 5) scRowS.nd rfl (Or.inl rfl)) (pgs_cons (pg_name (i := 5) scRowS.nd rfl (Or.inl rfl)) (pgs_cons (pg_name (i := 6) scRowS.nd rfl (Or.inl rfl)) pgs_nil))))) (fun _ _ _ _ _ => pts_nil) (fun _ _ _ _ _ => (pv 6)))
      (pss_cons (ps_set (i := 4) scRowS.nd rfl (Or.inl rfl) (pe_call GCb hr1 (by rfl) gCb FCb.kp bCb .nil pass0 (pa_cons (pv 3) pa_nil)))
      (pss_one (ps_ret (pe_cmpR op_eq (pe_callB (cr_sum rfl) (by rfl) ms boot_sum (pa_cons (pe_call GIp hr1 (by rfl) gIp FIp.kp bIp .nil pass0 (pa_cons (pv 4) (pa_cons (pv 3) pa_nil))) pa_nil)) (pv 4) (nomark _)))))))), ?_⟩
    refine ⟨_, rfl, _, _, _, _, rfl, dv, kit_tuple _, _, rfl, ?_⟩
    cases dv with
    | tup h1 h2 =>
      rename_i a xs ps
      have ln := h2.len
      refine iteF ⟨_, rfl, a, _, rfl, .inr (SqT.of h1), _, _, rfl, rfl, _, rfl, ?_⟩
      have no : ∀ H', Same H H' → rowS b ks (.tuple ps) = false → Q (.bl false) H' := fun H' s' e => by rw [← e]; exact k H' s'
      by_cases l1 : 1 ≤ ps.length
      · refine ifT (decide_eq_true (by omega)) ⟨_, _, rfl, rfl, _, rfl, ?_⟩
        by_cases l12 : ps.length ≤ 12
        · refine ifF (by rw [decide_eq_true (show (xs.length : Int) ≤ 12 by omega)]; rfl) ?_
          refine ⟨_, rfl, a, rfl, ⟨_, SqT.of h1⟩, fun D nD => ?_⟩
          refine lc_gen (walk_tup (K := K) (a := a) (xs := xs)) (fun _ => true) (fun i => .bl ((ps[i]?).elim false (tripD b ks))) nD (by rw [sizeLine_eq]; omega) (fun Ha sa => SqT.of (sa _ _ h1)) (fun i y Ha Hb hi sa yy Q2 R q2 r2 => ?_) fun Ha sa hD => ?_
          · obtain ⟨rfl, ey⟩ := yy
            obtain ⟨d0, g0, q0⟩ := h2.get ey
            have q3 := q2 rfl Hb (Same.refl _)
            rw [g0] at q3
            refine ⟨rfl, ?_⟩
            unfold tYes
            dsimp only
            rw [if_pos rfl]
            exact ⟨_, rfl, _, rfl, bk, rr, y, d0, b, kvs, ks, rfl, sa _ _ hb, hdf.mono sa, hks.mono sa, q0.mono sa, q3⟩
          · rw [range_all xs.length (fun _ => true), bools_map] at hD
            refine ⟨D, _, rfl, SqL.of hD, _, rfl, ?_⟩
            have e1 : ((List.range xs.length).map fun i => (ps[i]?).elim false (tripD b ks)).all id = ps.all (tripD b ks) := by
              rw [ln]
              exact all_range ps _ (tripD b ks) fun i a e => by rw [e]; rfl
            rw [e1]
            cases hall : ps.all (tripD b ks) with
            | false => exact iteT (no Ha sa (by show (_ && _ && ps.all (tripD b ks) && _ && _) = false; rw [hall]; simp))
            | true =>
              have al := List.all_eq_true.mp hall
              refine iteF ⟨_, rfl, a, xs, ps, rfl, sa _ _ h1, h2.mono sa, by omega, fun d hd => ⟨fun e he => trip_alike (al d hd) (al e he), ?_, ?_⟩, fun Hb sb => ?_⟩
              · obtain ⟨g, x, n, m, rfl, _⟩ := tripD_shape (al d hd)
                exact fun z => nomatch z
              · obtain ⟨g, x, n, m, rfl, _⟩ := tripD_shape (al d hd)
                simp only [PyData.depth, PyData.depthAll]; omega
              have sHb := sa.trans sb
              refine ⟨_, rfl, ?_⟩
              cases hri : riseD ps with
              | false => exact iteT (no Hb sHb (by show (_ && _ && _ && riseD ps && _) = false; rw [hri]; simp))
              | true =>
                refine iteF ?_
                -- shares
                have at3 : ∀ (i : Nat) (y : V), xs[i]? = some y → ∃ (q sq : Addr) (g : Int) (x : Str), y = .ref q ∧ H q = some (.tup [.int g, .str x, .ref sq]) ∧ H sq = some (.tup [.int (((ps[i]?).map shareOf).getD (0, 1)).1, .int (((ps[i]?).map shareOf).getD (0, 1)).2]) := fun i y ey => by
                  obtain ⟨d0, g0, q0⟩ := h2.get ey
                  obtain ⟨g, x, n, m, rfl, _⟩ := tripD_shape (al d0 (List.mem_of_getElem? g0))
                  rw [g0]
                  cases q0 with
                  | tup z1 z2 =>
                    cases z2 with
                    | cons y0 y1 =>
                      cases y1 with
                      | cons y2 y3 =>
                        cases y3 with
                        | cons y4 y5 =>
                          cases y5; cases y0; cases y2
                          cases y4 with
                          | tup z3 z4 =>
                            cases z4 with
                            | cons w0 w1 =>
                              cases w1 with
                              | cons w2 w3 =>
                                cases w3; cases w0; cases w2
                                exact ⟨_, _, g, x, rfl, z1, z3⟩
                refine ⟨_, rfl, a, rfl, ⟨_, SqT.of (sHb _ _ h1)⟩, fun D2 nD2 => ?_⟩
                refine lc_it (walk_tup (K := K) (a := a) (xs := xs)) (fun i Hi => Same Hb Hi ∧ ∃ qs : List Addr, Hi D2 = some (.lst (qs.map V.ref)) ∧ qs.length = i ∧ ∀ (j : Nat) (q : Addr), qs[j]? = some q → H q = some (.tup [.int (((ps[j]?).map shareOf).getD (0, 1)).1, .int (((ps[j]?).map shareOf).getD (0, 1)).2]))
                  ⟨Same.upd nD2, [], upd_same, rfl, fun j q h => by simp at h⟩ (fun i Hi _ z => SqT.of (z.1 _ _ (sHb _ _ h1))) ?_ ?_
                · rintro i x Hi Hj hi ⟨si, qs, hD2, ql, hq⟩ ⟨rfl, hx⟩
                  obtain ⟨q, sq, g, nm, rfl, z1, z2⟩ := at3 i x hx
                  refine ⟨q, _, rfl, SqT.of (si _ _ (sHb _ _ z1)), rfl, _, _, rfl, _, _, rfl, _, _, rfl, rfl, rfl, ?_⟩
                  unfold tYes
                  dsimp only
                  rw [if_pos rfl]
                  refine ⟨_, rfl, _, hD2, by rw [List.length_map, sizeLine_eq]; omega, fun c o h => by rw [upd_ne (ne_of_none h nD2)]; exact si c o h, qs ++ [sq], by rw [upd_same, List.map_append]; rfl, by rw [List.length_append, ql]; rfl, fun j q' h => ?_⟩
                  rw [List.getElem?_append] at h
                  by_cases c : j < qs.length
                  · rw [if_pos c] at h; exact hq j q' h
                  · rw [if_neg c] at h
                    have : j = qs.length := by
                      have := (List.getElem?_eq_some_iff.mp h).1
                      simp at this; omega
                    rw [this, Nat.sub_self] at h
                    cases h
                    rw [this, ql]; exact z2
                · rintro Hd ⟨sd, qs, hD2, ql, hq⟩
                  have shl : ShL Hd D2 (ps.map shareOf) := ⟨⟨qs, hD2, by rw [ql, List.length_map, ln], fun i q s' g1 g2 => by
                    have := hq i q g1
                    rw [List.getElem?_map] at g2
                    rw [g2] at this
                    exact sd _ _ (sHb _ _ this)⟩, by rw [List.length_map]; exact l12, fun s' hs => by
                    obtain ⟨d, hd, rfl⟩ := List.mem_map.mp hs
                    obtain ⟨g, x, n, m, rfl, n0, nm, m1⟩ := tripD_shape (al d hd)
                    show 0 < n ∧ n ≤ 100 ∧ 0 < m ∧ m ≤ 100
                    omega⟩
                  refine ⟨_, rfl, D2, _, rfl, shl, ?_⟩
                  refine ⟨_, rfl, _, rfl, lcmS (ps.map shareOf), D2, _, rfl, shl, fun D3 H3 s3 h3 => ⟨D3, _, rfl, SqL.of h3, _, rfl, rfl, ?_⟩⟩
                  have e3 : rowS b ks (.tuple ps) = decide (V.int ((ps.map shareOf).map fun s => s.1 * (((lcmS (ps.map shareOf) : Nat) : Int) / s.2)).sum = V.int ((lcmS (ps.map shareOf) : Nat) : Int)) := by
                    show (decide (1 ≤ ps.length) && decide (ps.length ≤ 12) && ps.all (tripD b ks) && riseD ps && sumOk (ps.map shareOf)) = _
                    rw [decide_eq_true l1, decide_eq_true l12, hall, hri]
                    show sumOk (ps.map shareOf) = _
                    unfold sumOk
                    by_cases e : ((ps.map shareOf).map fun s => s.1 * (((lcmS (ps.map shareOf) : Nat) : Int) / s.2)).sum = ((lcmS (ps.map shareOf) : Nat) : Int)
                    · rw [decide_eq_true e, decide_eq_true (by rw [e])]
                    · rw [decide_eq_false e, decide_eq_false (fun z => e (V.int.inj z))]
                  rw [← e3]
                  exact k H3 ((sHb.trans sd).trans s3)
        · refine ifT (by rw [decide_eq_false (show ¬ (xs.length : Int) ≤ 12 by omega)]; rfl) (no H (Same.refl H) (by show (_ && decide (ps.length ≤ 12) && _ && _ && _) = false; rw [decide_eq_false l12]; simp))
      · refine ifF (decide_eq_false (by omega)) ⟨_, rfl, iteT (no H (Same.refl H) (by show (decide (1 ≤ ps.length) && _ && _ && _ && _) = false; rw [decide_eq_false l1]; simp))⟩
    | _ => exact iteT (k H (Same.refl H))
theorem ok_shd {f fNm fRw : Addr} {fd fdNm fdRw : FuncData} (F : Fun K "is_shared" "is_shared" sShd f fd) (T : TxP mg)
    (FNm : Fun K "has_named_rows" "has_named_rows" sNamedX fNm fdNm) (GNm : FnOk P w K mg base CX0 3 fNm fdNm ["thing"] (spNamedX w)) (bNm : Binds K fdNm ["thing"] []) (gNm : mg "has_named_rows" = some (.ref fNm))
    (FRw : Fun K "_is_row" "_is_row" sRowS fRw fdRw) (GRw : FnOk P w K mg base CX0 4 fRw fdRw ["book", "row"] (spRowS w)) (bRw : Binds K fdRw ["book", "row"] []) (gRw : mg "_is_row" = some (.ref fRw)) : FnOk P w K mg base CX0 5 f fd ["thing"] (spShd w) := by
  refine F.ok scShd (fun vs H Q E h => ?_) (fun cdv A outer s H vs Q E hr h => ?_)
  · obtain ⟨v, d, rfl, _⟩ := h
    rfl
  · obtain ⟨v, d, rfl, dv, fb, k⟩ := h
    have hr3 : Room 3 _ := hr.mono (by decide)
    refine ⟨_, (pss_one (ps_ret (pe_and (pe_call GNm hr3 (by rfl) gNm FNm.kp bNm .nil pass0 (pa_cons (pv 0) pa_nil)) (pe_one (pe_callB (cr_all rfl) (by rfl) T.all boot_all (pa_cons (pe_lc (own := [("row", 1)]) (g := gName 1) (tt := tYes) rfl scShd.nd (pi_valsF (pe_ix ix_tup (pv 0) pe_int (fun _ _ => rfl))) (blkOk_by (N := ["thing", "row"]) (sc := defScope sShd) (by decide +kernel)) (fun _ _ _ _ _ => (pg_name (i := 1) scShd.nd rfl (Or.inl rfl))) (fun _ _ _ _ _ => pts_nil) (fun _ _ _ _ _ => (pe_call GRw hr (by rfl) gRw FRw.kp bRw .nil pass0 (pa_cons (pv 0) (pa_cons (pv 1) pa_nil))))) pa_nil)))))), ?_⟩
    refine ⟨_, rfl, v, d, rfl, dv, fb, fun H1 s1 => ⟨_, rfl, ?_⟩⟩
    cases hn : namedD d with
    | false =>
      refine iteF ?_
      have : isSharedD d = false := by unfold isSharedD; rw [hn]; rfl
      rw [← this]; exact k H1 s1
    | true =>
      obtain ⟨b, ds, rfl, l6⟩ := named_shape hn
      have e0 : isSharedD (.tuple [.int b, .dict ds]) = (ds.map (·.2)).all (rowS b (ds.map (·.1))) := by unfold isSharedD; rw [hn]; rfl
      rw [e0] at k
      cases dv with
      | tup h1 h2 =>
        cases h2 with
        | cons q0 r0 =>
          cases q0
          cases r0 with
          | cons q1 r1 =>
            cases r1
            cases q1 with
            | dct hdf hk hv =>
              rename_i a rr kvs
              have ek := hk.len
              rw [List.length_map, List.length_map] at ek
              refine iteT ⟨_, rfl, a, _, _, _, rfl, rfl, SqT.of (s1 _ _ h1), rfl, rr, kvs, rfl, hdf.mono s1, fun od u hod D nD => ?_⟩
              refine lc_gen (walk_valsF (w := w) (d := rr) (od := od) (kvs := kvs)) (fun _ => true) (fun i => .bl (((ds.map (·.2))[i]?).elim false (rowS b (ds.map (·.1))))) nD (by rw [sizeLine_eq]; omega) (fun Ha sa => ⟨⟨u, sa _ _ hod⟩, hdf.mono (s1.trans sa)⟩) (fun i y Ha Hb hi sa yy Q2 R q2 r2 => ?_) fun Ha sa hD => ?_
              · obtain ⟨rfl, kk, vv, ey⟩ := yy
                obtain ⟨d2, g0, q0⟩ := hv.get (i := i) (v := y) (by rw [List.getElem?_map, ey]; rfl)
                refine ⟨rfl, ?_⟩
                unfold tYes
                dsimp only
                rw [if_pos rfl]
                have sX := s1.trans sa
                refine ⟨_, rfl, _, rfl, a, rr, y, d2, b, kvs, ds.map (·.1), rfl, sX _ _ h1, hdf.mono sX, hk.mono sX, q0.mono sX, fun H4 s4 => ?_⟩
                have q3 := q2 rfl H4 s4
                rw [g0] at q3
                exact q3
              · rw [range_all kvs.length (fun _ => true), bools_map] at hD
                refine ⟨D, _, rfl, SqL.of hD, ?_⟩
                have e1 : ((List.range kvs.length).map fun i => ((ds.map (·.2))[i]?).elim false (rowS b (ds.map (·.1)))).all id = (ds.map (·.2)).all (rowS b (ds.map (·.1))) := by
                  have := all_range (ds.map (·.2)) (fun i => ((ds.map (·.2))[i]?).elim false (rowS b (ds.map (·.1)))) (rowS b (ds.map (·.1))) fun i a e => by rw [e]; rfl
                  rw [List.length_map, ← ek] at this
                  exact this
                rw [e1]
                exact k Ha (s1.trans sa)
end
end My

set_option linter.all false
namespace My
open PySem PySem.Spec PyProof.Rows L2
/-! ### shared books of anything: the law's look, its lesser parts -/
abbrev sLWh : Stmt := topS 26
abbrev sLSh : Stmt := topS 28
def tChain3 (r r' r'' : R2) (ta tb tc td : TE) : TE := fun σ H Q => ta σ H fun x H1 => tb σ H1 fun y H2 => r x y H2 fun z H3 => ∃ k, z = .bl k ∧
  (if k = true then tc σ H3 fun y' H4 => r' y y' H4 fun z' H5 => ∃ k', z' = .bl k' ∧ (if k' = true then td σ H5 fun y'' H6 => r'' y' y'' H6 Q else Q (.bl false) H5) else Q (.bl false) H3)
section
variable {X : Cx}
theorem pe_chain3 {a b c d : Expr} {pos : Pos} {o1 o2 o3 : CmpOp} {r r' r'' : R2} {ta tb tc td : TE} (h1 : OpR X (compareOp o1) r) (h2 : OpR X (compareOp o2) r') (h3 : OpR X (compareOp o3) r'') (ha : PE X a ta) (hb : PE X b tb) (hc : PE X c tc) (hd : PE X d td)
    (hm : lastMarks [o1, o2, o3] [b, c, d] = false := by with_unfolding_all rfl) : PE X (.Compare a [o1, o2, o3] [b, c, d] pos) (tChain3 r r' r'' ta tb tc td) := by
  refine ⟨fun pins s σ H Q I h => Compare_chain (thn (ha.run pins s σ H _ I h) fun v s1 ⟨x, H1, I1, r1, q1⟩ => chain_link (thn (hb.run pins s1 σ H1 _ I1 q1) fun u s2 ⟨y, H2, I2, r2, q2⟩ =>
    thn (h1 pins s2 σ H2 x y v u _ I2 r1 r2 q2) fun e s3 ⟨z, H3, I3, r3, k, ek, q3⟩ => ?_)) hm⟩
  subst ek
  cases r3
  refine wpAny_truthy_bool ?_
  cases k with
  | false => exact ite_ff ⟨.bl false, H3, I3, rfl, q3⟩
  | true =>
    refine ite_tt (chain_link (thn (hc.run pins s3 σ H3 _ I3 q3) fun u' s4 ⟨y', H4, I4, r4, q4⟩ => thn (h2 pins s4 σ H4 y y' u u' _ I4 r2 r4 q4) fun e' s5 ⟨z', H5, I5, r5, k', ek', q5⟩ => ?_))
    subst ek'
    cases r5
    refine wpAny_truthy_bool ?_
    cases k' with
    | false => exact ite_ff ⟨.bl false, H5, I5, rfl, q5⟩
    | true => exact ite_tt (chain_last (thn (hd.run pins s5 σ H5 _ I5 q5) fun u'' s6 ⟨y'', H6, I6, r6, q6⟩ => h3 pins s6 σ H6 y' y'' u' u'' Q I6 r4 r6 q6))
end
theorem shp2 (n m : Int) : SeqAt.shaped (.tuple [.int n, .int m]) = true := by
  unfold SeqAt.shaped
  simp [PyData.canLay0, PyData.canLayAll0, PyData.depth, PyData.depthAll]
def spLSh (w : World) : Sp := fun vs H Q _ => ∃ (v : V) (d : PyData), vs = [v] ∧ Dx w H v d ∧ ∀ H', Same H H' → Q (.bl (shareD d)) H'
theorem low_same {n m : Int} (n0 : 0 < n) (m0 : 0 < m) : PyData.eqv (.tuple [.int (n / gL n m), .int (m / gL n m)]) (.tuple [.int n, .int m]) = decide (Nat.gcd n.natAbs m.natAbs = 1) := by
  have e : PyData.eqv (.tuple [.int (n / gL n m), .int (m / gL n m)]) (.tuple [.int n, .int m]) = (decide (n / gL n m = n) && decide (m / gL n m = m)) := by
    simp only [PyData.eqv, PyData.eqvAll, Bool.and_true]
    congr 1 <;> (apply Bool.eq_iff_iff.mpr; simp)
  rw [e]
  have g : gL n m = ((Nat.gcd n.natAbs m.natAbs : Nat) : Int) := by unfold gL; rw [Nat.gcd_comm]
  by_cases c : Nat.gcd n.natAbs m.natAbs = 1
  · rw [decide_eq_true c]
    have g1 : gL n m = 1 := by rw [g, c]; rfl
    rw [g1]
    simp
  · rw [decide_eq_false c, g]
    have p : 0 < Nat.gcd n.natAbs m.natAbs := Nat.gcd_pos_of_pos_left _ (by omega)
    have : n / ((Nat.gcd n.natAbs m.natAbs : Nat) : Int) < n := by
      refine Int.ediv_lt_of_lt_mul (by omega) ?_
      have h2 : (2 : Int) ≤ ((Nat.gcd n.natAbs m.natAbs : Nat) : Int) := by omega
      have := Int.mul_le_mul_of_nonneg_left h2 (show 0 ≤ n by omega)
      omega
    rw [decide_eq_false (by omega)]; rfl
section
variable {P : Program} {w : World} {K : PySem.W.Frag} {mg : Str → Option Value} {base : Heap}
theorem scLWh : FnScope ["thing"] ["thing"] (defScope sLWh) := ⟨rfl, rfl, rfl, by decide +kernel, rfl, by decide +kernel, by decide +kernel⟩
theorem scLSh : FnScope ["thing"] ["thing"] (defScope sLSh) := ⟨rfl, rfl, rfl, by decide +kernel, rfl, by decide +kernel, by decide +kernel⟩
theorem ok_lwh {f : Addr} {fd : FuncData} (F : Fun K "_law_is_whole" "_law_is_whole" sLWh f fd) (T : TxP mg) : FnOk P w K mg base CX0 1 f fd ["thing"] (spWholeX w) := by
  refine F.ok scLWh (fun vs H Q E h => ?_) (fun cdv A outer s H vs Q E hr h => ?_)
  · obtain ⟨v, d, rfl, _⟩ := h
    rfl
  · obtain ⟨v, d, rfl, dv, k⟩ := h
    refine ⟨_, (pss_one (ps_ret (pe_and (pe_callB call_isiX (by rfl) T.isi boot_isinstance (pa_cons (pv 0) (pa_cons (pe_bltn (v := .ty "int") (by rfl) T.int boot_int rfl) pa_nil))) (pe_one (pe_not (pe_callB call_isiX (by rfl) T.isi boot_isinstance (pa_cons (pv 0) (pa_cons (pe_bltn (v := .ty "bool") (by rfl) T.bool boot_bool rfl) pa_nil)))))))), ?_⟩
    refine ⟨_, rfl, _, _, _, _, rfl, dv, kit_int _, _, rfl, ?_⟩
    cases hi : isT "int" d || isT "bool" d with
    | false =>
      have h1 : isT "int" d = false := by cases q : isT "int" d with | false => rfl | true => rw [q] at hi; cases hi
      rw [h1] at k
      exact iteF k
    | true =>
      refine iteT ⟨_, rfl, _, _, _, _, rfl, dv, kit_bool _, _, rfl, ?_⟩
      have h1 : (!isT "bool" d) = isT "int" d := by cases d <;> first | rfl | exact Bool.noConfusion (show false = true from hi)
      rw [h1]
      exact k
theorem ok_lsh {f fLw fLo : Addr} {fd fdLw fdLo : FuncData} (F : Fun K "_law_is_share" "_law_is_share" sLSh f fd) (T : TxP mg)
    (FLw : Fun K "_law_is_whole" "_law_is_whole" sLWh fLw fdLw) (bLw : Binds K fdLw ["thing"] []) (gLw : mg "_law_is_whole" = some (.ref fLw))
    (FLo : Fun K "_law_lowest" "_law_lowest" sLow fLo fdLo) (GLo : FnOk P w K mg base CX0 1 fLo fdLo ["top", "below"] spLow) (bLo : Binds K fdLo ["top", "below"] []) (gLo : mg "_law_lowest" = some (.ref fLo)) : FnOk P w K mg base CX0 2 f fd ["thing"] (spLSh w) := by
  have GLw : FnOk P w K mg base CX0 1 fLw fdLw ["thing"] (spWholeX w) := ok_lwh FLw T
  refine F.ok scLSh (fun vs H Q E h => ?_) (fun cdv A outer s H vs Q E hr h => ?_)
  · obtain ⟨v, d, rfl, _⟩ := h
    rfl
  · obtain ⟨v, d, rfl, dv, k⟩ := h
    have hr1 := hr
    refine ⟨_, (pss_cons (ps_if (PW.pt (pw_or (pt_not (pt_val (pe_callB call_isiX (by rfl) T.isi boot_isinstance (pa_cons (pv 0) (pa_cons (pe_bltn (v := .ty "tuple") (by rfl) T.tuple boot_tuple rfl) pa_nil))))) (pw_or (pt_cmpR op_ne (pe_callB call_len_seq (by rfl) T.len PySem.boot_len (pa_cons (pv 0) pa_nil)) pe_int (nomark _)) (pw_or (pt_not (pt_val (pe_call GLw hr1 (by rfl) gLw FLw.kp bLw .nil pass0 (pa_cons (pe_ix ix_tup (pv 0) pe_int (fun _ _ => rfl)) pa_nil)))) (pw_or1 (pt_not (pt_val (pe_call GLw hr1 (by rfl) gLw FLw.kp bLw .nil pass0 (pa_cons (pe_ix ix_tup (pv 0) pe_int (fun _ _ => rfl)) pa_nil))))))))) (pss_one (ps_ret pe_bl)) pss_nil)
      (pss_one (ps_ret (pe_and (pe_chain3 op_lt op_le op_le pe_int (pe_ix ix_tup (pv 0) pe_int (fun _ _ => rfl)) (pe_ix ix_tup (pv 0) pe_int (fun _ _ => rfl)) pe_int) (pe_one (pe_cmpR (op_eqX hr.units) (pe_call GLo hr1 (by rfl) gLo FLo.kp bLo .nil pass0 (pa_cons (pe_ix ix_tup (pv 0) pe_int (fun _ _ => rfl)) (pa_cons (pe_ix ix_tup (pv 0) pe_int (fun _ _ => rfl)) pa_nil))) (pv 0) (nomark _))))))), ?_⟩
    have dv0 := dv
    refine ⟨_, rfl, _, _, _, _, rfl, dv, kit_tuple _, _, rfl, ?_⟩
    cases dv with
    | tup h1 h2 =>
      rename_i a xs ds
      refine iteF ⟨_, rfl, a, _, rfl, .inr (SqT.of h1), rfl, _, rfl, ?_⟩
      have ln := h2.len
      have k0 := k H (Same.refl H)
      by_cases l2 : xs.length = 2
      · refine ifF (by simp [l2]) ?_
        obtain ⟨d0, d1, rfl⟩ : ∃ d0 d1, ds = [d0, d1] := by
          match ds, (ln.symm.trans l2 : ds.length = 2) with
          | [d0, d1], _ => exact ⟨d0, d1, rfl⟩
        cases h2 with
        | cons q0 r0 =>
          cases r0 with
          | cons q1 r1 =>
            cases r1
            rename_i v0 v1
            refine ⟨_, rfl, a, _, 0, v0, rfl, rfl, SqT.of h1, atI_nat (j := 0) rfl, v0, d0, rfl, q0, _, rfl, ?_⟩
            cases hb : isT "int" d0 with
            | false =>
              refine iteT ?_
              have : shareD (.tuple [d0, d1]) = false := by cases d0 <;> first | rfl | exact Bool.noConfusion (show true = false from hb)
              rw [this] at k0; exact k0
            | true =>
              refine iteF ⟨_, rfl, a, _, 1, v1, rfl, rfl, SqT.of h1, atI_nat (j := 1) rfl, v1, d1, rfl, q1, _, rfl, ?_⟩
              obtain ⟨n, rfl⟩ : ∃ n, d0 = .int n := by cases d0 <;> first | exact ⟨_, rfl⟩ | exact Bool.noConfusion (show false = true from hb)
              cases hb1 : isT "int" d1 with
              | false =>
                refine iteT ?_
                have : shareD (.tuple [.int n, d1]) = false := by cases d1 <;> first | rfl | exact Bool.noConfusion (show true = false from hb1)
                rw [this] at k0; exact k0
              | true =>
                obtain ⟨m, rfl⟩ : ∃ m, d1 = .int m := by cases d1 <;> first | exact ⟨_, rfl⟩ | exact Bool.noConfusion (show false = true from hb1)
                cases q0; cases q1
                have es : shareD (.tuple [.int n, .int m]) = (decide (0 ≤ n) && decide (n ≤ m) && decide (Nat.gcd n.natAbs m.natAbs = 1) && decide (0 < n) && decide (m ≤ 100)) := rfl
                refine iteF ⟨_, rfl, a, _, 0, .int n, rfl, rfl, SqT.of h1, atI_nat (j := 0) rfl, _, _, rfl, rfl, _, rfl, ?_⟩
                by_cases n0 : 0 < n
                · refine ifT (decide_eq_true n0) ⟨_, rfl, a, _, 1, .int m, rfl, rfl, SqT.of h1, atI_nat (j := 1) rfl, _, _, rfl, rfl, _, rfl, ?_⟩
                  by_cases nm : n ≤ m
                  · refine ifT (decide_eq_true nm) ⟨_, _, rfl, rfl, _, rfl, ?_⟩
                    by_cases m1 : m ≤ 100
                    · refine ifT (decide_eq_true m1) ?_
                      refine ⟨_, rfl, a, _, 0, .int n, rfl, rfl, SqT.of h1, atI_nat (j := 0) rfl, _, rfl, a, _, 1, .int m, rfl, rfl, SqT.of h1, atI_nat (j := 1) rfl, n, m, rfl, by omega, Nat.lt_of_le_of_lt (show m.natAbs ≤ 1000 by omega) (by decide), fun q nq => ?_⟩
                      have sq : Same H (upd H q (.tup [.int (n / gL n m), .int (m / gL n m)])) := Same.upd nq
                      refine ⟨_, rfl, .tuple [.int (n / gL n m), .int (m / gL n m)], _, .tup upd_same (.cons (.int _) (.cons (.int _) .nil)), dv0.mono sq, shp2 _ _, shp2 _ _, ?_⟩
                      rw [low_same n0 (by omega)]
                      have k1 := k _ sq
                      rw [es, decide_eq_true (show 0 ≤ n by omega), decide_eq_true nm, decide_eq_true n0, decide_eq_true m1, Bool.true_and, Bool.true_and, Bool.and_true, Bool.and_true] at k1
                      exact k1
                    · refine ifF (decide_eq_false m1) ?_
                      rw [es, decide_eq_false m1, Bool.and_false] at k0; exact k0
                  · refine ifF (decide_eq_false nm) ⟨_, rfl, ifF rfl ?_⟩
                    rw [es, decide_eq_false nm] at k0; simpa using k0
                · refine ifF (decide_eq_false n0) ⟨_, rfl, ifF rfl ?_⟩
                  rw [es, decide_eq_false n0] at k0; simpa using k0
      · refine ifT (by
          have : ¬ (V.int (xs.length : Int) = V.int 2) := fun z => l2 (by have := V.int.inj z; omega)
          rw [decide_eq_false this]; rfl) ?_
        have : shareD (.tuple ds) = false := by
          match ds, ln with
          | [], _ => rfl
          | [d0], _ => cases d0 <;> rfl
          | [_, _], e => exact absurd e l2
          | d0 :: d1 :: d2 :: r, _ => cases d0 <;> cases d1 <;> rfl
        rw [this] at k0; exact k0
    | _ => exact iteT (k H (Same.refl H))
end
end My

set_option linter.all false
namespace My
open PySem PySem.Spec PyProof.Rows L2
/-! ### a list beside the empty one; how long a text is that is shown -/
section
variable {X : Cx}
def rNil (K : PySem.W.Frag) (f : Bool → Bool) : R2 := fun x y H Q => ∃ (a b : Addr) (xs : List V), x = .ref a ∧ y = .ref b ∧ SqL K H a xs ∧ SqL K H b [] ∧ Q (.bl (f xs.isEmpty)) H
theorem op_eqNil (hu : X.A.units + 64 < cLine) : OpR X (compareOp .Eq) (rNil X.K id) := by
  intro pins s σ H x y v u Q I rx ry h
  obtain ⟨a, b, xs, rfl, rfl, ha, hb, q⟩ := h
  cases (show v = Value.ref a from rx)
  cases (show u = Value.ref b from ry)
  obtain ⟨us, r1, p1, _⟩ := I.list ha
  obtain ⟨ws, r2, p2, _⟩ := I.list hb
  cases r2
  cases xs with
  | nil =>
    cases r1
    exact SeqAt.RcAt.lists (e := fun _ => true) p1.isList p2.isList rfl (by omega) (fun j h1 _ => absurd h1 (Nat.not_lt_zero _)) _ _ _ _ ⟨.bl true, H, I, rfl, q⟩
  | cons z zs =>
    cases r1 with
    | cons e1 e2 => exact SeqAt.RcAt.lists_lengths p1.isList p2.isList (by simp) (by omega) _ _ _ _ ⟨.bl false, H, I, rfl, q⟩
theorem op_neNil (hu : X.A.units + 64 < cLine) : OpR X (compareOp .NotEq) (rNil X.K not) := by
  intro pins s σ H x y v u Q I rx ry h
  obtain ⟨a, b, xs, rfl, rfl, ha, hb, q⟩ := h
  cases (show v = Value.ref a from rx)
  cases (show u = Value.ref b from ry)
  obtain ⟨us, r1, p1, _⟩ := I.list ha
  obtain ⟨ws, r2, p2, _⟩ := I.list hb
  cases r2
  cases xs with
  | nil =>
    cases r1
    exact SeqAt.RcNeAt.lists (e := fun _ => true) p1.isList p2.isList rfl (by omega) (fun j h1 _ => absurd h1 (Nat.not_lt_zero _)) _ _ _ _ ⟨.bl false, H, I, rfl, q⟩
  | cons z zs =>
    cases r1 with
    | cons e1 e2 => exact SeqAt.RcNeAt.lists_lengths p1.isList p2.isList (by simp) (by omega) _ _ _ _ ⟨.bl true, H, I, rfl, q⟩
end
/-- the texts in data are no longer than what is shown of it -/
theorem rep_pos (q c : Nat) : 1 ≤ (Builtin.Str.reprChar q c).length := by
  unfold Builtin.Str.reprChar
  repeat' split
  all_goals simp
theorem text_len (x : Str) : x.length ≤ (reprText x).length := by
  have key : ∀ (q : Nat) (l : List Nat) (n : Nat), n + l.length ≤ l.foldl (fun n c => n + (Builtin.Str.reprChar q c).length) n := fun q l => by
    induction l with
    | nil => intro n; exact Nat.le_refl _
    | cons c r ih =>
      intro n
      have h1 := ih (n + (Builtin.Str.reprChar q c).length)
      have h2 := rep_pos q c
      rw [List.foldl_cons, List.length_cons]
      omega
  rw [← reprLen_eq, ← Array.foldl_toList]
  have := key (reprQuote x) x.cps.toList 2
  rw [Array.length_toList] at this
  show x.cps.size ≤ _
  omega
def TxL (d : PyData) : Prop := ∀ x, d = .str x → x.length ≤ 16770000
theorem in_tuple {d : PyData} {ds : List PyData} (h : d ∈ ds) : d.shown.length ≤ (PyData.tuple ds).shown.length := by
  simp only [PyData.shown]
  exact tupleText_mem_le (by rw [shownAll_map]; exact List.mem_map.mpr ⟨d, h, rfl⟩)
theorem tx_of {d : PyData} (h : d.shown.length ≤ 16770000) : TxL d := fun x e => by
  subst e
  have := text_len x
  rw [show (PyData.str x).shown = reprText x by simp only [PyData.shown]] at h
  omega
theorem in_dict {p : PyData × PyData} {ds : List (PyData × PyData)} (h : p ∈ ds) : p.1.shown.length ≤ (PyData.dict ds).shown.length ∧ p.2.shown.length ≤ (PyData.dict ds).shown.length := by
  have h1 : (p.1.shown ++ ((": " : String) : Str) ++ p.2.shown).length ≤ (PyData.dict ds).shown.length := by
    simp only [PyData.shown]
    exact dictText_mem_le (by rw [shownKv_map]; exact List.mem_map.mpr ⟨p, h, rfl⟩)
  rw [lenap, lenap] at h1
  omega
end My

set_option linter.all false
namespace My
open PySem PySem.Spec PyProof.Rows L2
abbrev sLNm : Stmt := topS 27
def rNotInS2 : R2 := fun x y H Q => ∃ (c : Nat) (z : Str), x = .str ⟨#[c]⟩ ∧ y = .str z ∧ Q (.bl (!decide (c ∈ z.cps.toList))) H
theorem op_notIn_sign2 {X : Cx} : OpR X (compareOp .NotIn) rNotInS2 := op_notIn_sign
theorem small_letS (c : Nat) : decide (c ∈ smallS.cps.toList) = letC c := by
  rw [small_tl]
  unfold letC
  by_cases h : 97 ≤ c ∧ c ≤ 122
  · rw [decide_eq_true h.1, decide_eq_true h.2]
    exact decide_eq_true (List.mem_map.mpr ⟨c - 97, List.mem_range.mpr (by omega), by omega⟩)
  · have n : c ∉ (List.range 26).map (97 + ·) := fun z => by
      obtain ⟨j, hj, rfl⟩ := List.mem_map.mp z
      have := List.mem_range.mp hj
      exact h ⟨by omega, by omega⟩
    rw [decide_eq_false n]
    by_cases h1 : 97 ≤ c
    · rw [decide_eq_true h1, decide_eq_false (fun z => h ⟨h1, z⟩)]; rfl
    · rw [decide_eq_false h1]; rfl
theorem eqv_nil2 (ds : List PyData) : PyData.eqv (.list ds) (.list []) = ds.isEmpty := by
  cases ds with
  | nil => simp [PyData.eqv, PyData.eqvAll]
  | cons a r => simp [PyData.eqv, PyData.eqvAll]
theorem shp_strs2 (l : List Str) (h : ∀ x ∈ l, PyData.strOk x = true) : SeqAt.shaped (.list (l.map PyData.str)) = true := by
  have h1 : PyData.canLayAll0 (l.map PyData.str) = true := by
    induction l with
    | nil => simp [PyData.canLayAll0]
    | cons x r ih => simp only [List.map_cons, PyData.canLayAll0, PyData.canLay0, ih fun y hy => h y (List.mem_cons_of_mem _ hy), h x List.mem_cons_self, Bool.and_true]
  have h2 : PyData.depthAll (l.map PyData.str) = 0 := by
    clear h1 h
    induction l with
    | nil => simp only [List.map_nil, PyData.depthAll]
    | cons x r ih => simp only [List.map_cons, PyData.depthAll, PyData.depth, ih]; rfl
  unfold SeqAt.shaped
  simp only [PyData.canLay0, PyData.depth, h1, h2]
  rfl
def spNameL (w : World) : Sp := fun vs H Q _ => ∃ (v : V) (d : PyData), vs = [v] ∧ Dx w H v d ∧ TxL d ∧ ∀ H', Same H H' → Q (.bl (nameD d)) H'
section
variable {P : Program} {w : World} {K : PySem.W.Frag} {mg : Str → Option Value} {base : Heap}
theorem scLNm : FnScope ["thing", "sign"] ["thing"] (defScope sLNm) := ⟨rfl, rfl, rfl, by decide +kernel, rfl, by decide +kernel, by decide +kernel⟩
theorem ok_lnm {f : Addr} {fd : FuncData} (F : Fun K "_law_is_name" "_law_is_name" sLNm f fd) (T : TxP mg) : FnOk P w K mg base CX0 1 f fd ["thing"] (spNameL w) := by
  refine F.ok scLNm (fun vs H Q E h => ?_) (fun cdv A outer s H vs Q E hr h => ?_)
  · obtain ⟨v, d, rfl, _⟩ := h
    rfl
  · obtain ⟨v, d, rfl, dv, so, k⟩ := h
    refine ⟨_, (pss_cons (ps_if (PW.pt (pw_or (pt_not (pt_val (pe_callB call_isiX (by rfl) T.isi boot_isinstance (pa_cons (pv 0) (pa_cons (pe_bltn (v := .ty "str") (by rfl) T.str boot_str rfl) pa_nil))))) (pw_or1 (pt_not (pt_chain op_lt op_lt pe_int (pe_callB call_len_str (by rfl) T.len PySem.boot_len (pa_cons (pv 0) pa_nil)) pe_int))))) (pss_one (ps_ret pe_bl)) pss_nil)
      (pss_one (ps_ret (pe_cmpR (op_eqNil hr.units) (pe_lc (own := [("sign", 1)]) (g := gName 1) rfl scLNm.nd (pi_str (pv 0)) (blkOk_by (N := ["thing", "sign"]) (sc := defScope sLNm) (by decide +kernel)) (fun _ _ _ _ _ => (pg_name (i := 1) scLNm.nd rfl (Or.inl rfl))) (fun _ _ _ _ _ => (pts_one (pt_cmpR (show OpR _ _ rNotInS2 from op_notIn_sign2) (pv 1) pe_str (by rfl)))) (fun _ _ _ _ _ => (pv 1))) (pe_lst pa_nil) (nomark _))))), ?_⟩
    refine ⟨_, rfl, _, _, _, _, rfl, dv, kit_strX _, _, rfl, ?_⟩
    cases d with
    | str x =>
      cases dv
      have z : x.length ≤ sizeLine := by have := so x rfl; rw [sizeLine_eq]; omega
      refine iteF ⟨_, rfl, _, rfl, z, _, _, rfl, rfl, _, rfl, ?_⟩
      by_cases c1 : 0 < x.length
      · refine ifT (decide_eq_true (by omega)) ⟨_, _, rfl, rfl, _, rfl, ?_⟩
        by_cases c8 : x.length ≤ 8
        · refine ifF (by rw [decide_eq_true (show (x.length : Int) < 9 by omega)]; rfl) ?_
          refine ⟨_, rfl, _, rfl, fun D nD => ?_⟩
          refine lc_gen (walk_str (z := x)) (fun i => !letC ((x.cps[i]?).getD 0)) (fun i => .str ⟨#[(x.cps[i]?).getD 0]⟩) nD (by have : x.cps.size = x.length := rfl; omega) (fun _ _ => trivial) (fun i y Ha Hb hi sa yy Q2 R q2 r2 => ?_) fun Ha sa hD => ?_
          · obtain ⟨rfl, c, hc, rfl⟩ := yy
            refine ⟨rfl, ?_⟩
            rw [hc] at q2 r2
            refine ⟨_, rfl, c, smallS, rfl, rfl, _, rfl, ?_⟩
            rw [small_letS]
            cases hl : letC c with
            | true => exact r2 (by show (!letC c) = false; rw [hl]; rfl) Hb (Same.refl _)
            | false => exact ⟨_, rfl, q2 (by show (!letC c) = true; rw [hl]; rfl) Hb (Same.refl _)⟩
          · refine ⟨by show 0 ≤ sizeLine; exact Nat.zero_le _, fun L nL => ?_⟩
            have ne : D ≠ L := ne_of_none hD nL
            have eD : upd Ha L (.lst []) D = some (.lst ((((List.range x.cps.size).filter fun i => !letC ((x.cps[i]?).getD 0)).map fun i => (⟨#[(x.cps[i]?).getD 0]⟩ : Str)).map V.str)) := by
              rw [upd_ne ne, hD, List.map_map]; rfl
            refine ⟨_, _, _, rfl, rfl, SqL.of eD, SqL.of upd_same, ?_⟩
            · show Q (.bl (List.isEmpty _)) _
              have e1 : ((((List.range x.cps.size).filter fun i => !letC ((x.cps[i]?).getD 0)).map fun i => (⟨#[(x.cps[i]?).getD 0]⟩ : Str)).map V.str).isEmpty = x.cps.toList.all letC := by
                have h2 := all_range x.cps.toList (fun i => letC ((x.cps[i]?).getD 0)) letC fun i a e => by
                  rw [Array.getElem?_toList] at e; rw [e]; rfl
                rw [Array.length_toList] at h2
                rw [← h2, Bool.eq_iff_iff, List.isEmpty_iff, List.map_eq_nil_iff, List.map_eq_nil_iff, List.filter_eq_nil_iff, List.all_eq_true]
                constructor
                · intro h b hb
                  obtain ⟨i, hi, rfl⟩ := List.mem_map.mp hb
                  have := h i hi
                  simpa using this
                · intro h i hi
                  have := h _ (List.mem_map.mpr ⟨i, hi, rfl⟩)
                  simpa using this
              rw [e1]
              have : nameD (.str x) = x.cps.toList.all letC := by show (decide (1 ≤ x.length) && decide (x.length ≤ 8) && _) = _; rw [decide_eq_true (show 1 ≤ x.length by omega), decide_eq_true c8]; rfl
              rw [← this]; exact k _ (sa.trans (Same.upd nL))
        · refine ifT (by rw [decide_eq_false (show ¬ (x.length : Int) < 9 by omega)]; rfl) ?_
          have : nameD (.str x) = false := by show (_ && decide (x.length ≤ 8) && _) = false; rw [decide_eq_false c8]; simp
          rw [← this]; exact k H (Same.refl H)
      · refine ifF (decide_eq_false (by omega)) ⟨_, rfl, iteT ?_⟩
        have : nameD (.str x) = false := by show (decide (1 ≤ x.length) && _ && _) = false; rw [decide_eq_false (show ¬ 1 ≤ x.length by omega)]; simp
        rw [← this]; exact k H (Same.refl H)
    | _ => exact iteT (k H (Same.refl H))
end
end My

set_option linter.all false
namespace My
open PySem PySem.Spec PyProof.Rows L2
/-! ### something odd, of the law of shares -/
abbrev sOddS : Stmt := topS 31
def oddsS1 : List PyData := [.int 0, .int 1, .int (-1), .int 2, .int 10, .int 11, .bool true, .bool false, .none, .str "", .str "a", .str "A", .tuple [], .tuple [.int 0, .int 1], .tuple [.int 1, .int 1], .tuple [.int 1, .int 2], .tuple [.int 2, .int 4], .tuple [.int 3, .int 2], .tuple [.int 1, .int 101]]
def oddsS2 : List PyData := [.list [], .str "a_b", .str "a b", .str "a-", .str "aB", .str "a.", .str "a+", .tuple [.bool true, .int 1], .tuple [.int 1, .bool true], .list [.int 1, .int 2], .tuple [.int 1, .int 2, .int 0], .tuple [.str "1", .int 2]]
def oddsS3 : List PyData := [.tuple [.none, .int 1]]
def oddsS : List PyData := (oddsS1 ++ oddsS2) ++ oddsS3
theorem PenD.tup_off {p pc t : Addr} {n : Nat} {H : Hp} {xs : List V} (P : PenD H p pc n) (h : H t = Option.some (.tup xs)) : off H p t = Option.some (.tup xs) := by
  by_cases z : t = p
  · subst z
    obtain ⟨cells, x, y, z, g1, _⟩ := P.ex
    rw [g1] at h; cases h
  · rw [off_ne z]; exact h
/-- a value that is data beside the pen -/
def DX (w : World) (p : Addr) (S : PyData → Prop) (H : Hp) (v : V) : Prop := ∃ d, Dx w (off H p) v d ∧ S d
theorem DX.but {w : World} {p : Addr} {S : PyData → Prop} {H H' : Hp} {v : V} (h : DX w p S H v) (b : But p H H') : DX w p S H' v := let ⟨d, a, c⟩ := h; ⟨d, a.mono (off_but b), c⟩
theorem DX.up {w : World} {p : Addr} {S S' : PyData → Prop} {H : Hp} {v : V} (h : DX w p S H v) (i : ∀ d, S d → S' d) : DX w p S' H v := let ⟨d, a, c⟩ := h; ⟨d, a, i d c⟩
theorem dx_in {w : World} {G : Hp} {vs : List V} {ds : List PyData} (h : DxAll w G vs ds) {v : V} (m : v ∈ vs) : ∃ d, d ∈ ds ∧ Dx w G v d := by
  obtain ⟨i, hi, e⟩ := List.mem_iff_getElem.mp m
  obtain ⟨d, e1, x⟩ := h.get (List.getElem?_eq_getElem hi)
  exact ⟨d, List.mem_of_getElem? e1, e ▸ x⟩
def spOddS (w : World) : Sp := fun vs H Q _ => ∃ (p c : Addr) (t : Nat), vs = [.ref p] ∧ PenD H p c t ∧ t < 2 ^ 29 ∧ ∀ v d G H', But p H H' → PenD H' p c (t + 1) → (∀ a, H a ≠ none → G a = none) → Same G H' → Dx w G v d → d ∈ oddsS → Q v H'
section
variable {P : Program} {w : World} {K : PySem.W.Frag} {mg : Str → Option Value} {base : Heap}
theorem scOddS : FnScope ["pen", "some"] ["pen"] (defScope sOddS) := ⟨rfl, rfl, rfl, by decide +kernel, rfl, by decide +kernel, by decide +kernel⟩
theorem ok_oddS {f fOn : Addr} {fd fdOn : FuncData} (F : Fun K "_law_odd" "_law_odd" sOddS f fd)
    (FOn : Fun K "_law_one_of" "_law_one_of" sOneOf fOn fdOn) (GOn : FnOk P w K mg base CX0 3 fOn fdOn ["pen", "some"] spOneOf) (bOn : Binds K fdOn ["pen", "some"] []) (gOn : mg "_law_one_of" = some (.ref fOn)) :
    FnOk P w K mg base CX0 4 f fd ["pen"] (spOddS w) := by
  refine F.ok scOddS (fun vs H Q E h => ?_) (fun cdv A outer s H vs Q E hr h => ?_)
  · obtain ⟨p, c, t, rfl, _⟩ := h
    rfl
  · obtain ⟨p, c, t, rfl, C, tt, k⟩ := h
    refine ⟨_, (pss_cons (ps_set (i := 1) scOddS.nd rfl (Or.inl rfl) (pe_lst (dxs_cons dx_int (dxs_cons dx_int (dxs_cons dx_neg (dxs_cons dx_int (dxs_cons dx_int (dxs_cons dx_int (dxs_cons dx_bl (dxs_cons dx_bl (dxs_cons dx_non (dxs_cons dx_str (dxs_cons dx_str (dxs_cons dx_str (dxs_cons (dx_tup dxs_nil (by show 0 ≤ sizeLine; decide)) (dxs_cons (dx_tup (dxs_cons dx_int (dxs_cons dx_int dxs_nil)) (by show 2 ≤ sizeLine; decide)) (dxs_cons (dx_tup (dxs_cons dx_int (dxs_cons dx_int dxs_nil)) (by show 2 ≤ sizeLine; decide)) (dxs_cons (dx_tup (dxs_cons dx_int (dxs_cons dx_int dxs_nil)) (by show 2 ≤ sizeLine; decide)) (dxs_cons (dx_tup (dxs_cons dx_int (dxs_cons dx_int dxs_nil)) (by show 2 ≤ sizeLine; decide)) (dxs_cons (dx_tup (dxs_cons dx_int (dxs_cons dx_int dxs_nil)) (by show 2 ≤ sizeLine; decide)) (dxs_cons (dx_tup (dxs_cons dx_int (dxs_cons dx_int dxs_nil)) (by show 2 ≤ sizeLine; decide)) dxs_nil)))))))))))))))))))))
      (pss_cons (ps_set (i := 1) scOddS.nd rfl (Or.inl rfl) (pe_op op_cat (pv 1) (pe_lst (dxs_cons (dx_lst dxs_nil (by show 0 ≤ sizeLine; decide)) (dxs_cons dx_str (dxs_cons dx_str (dxs_cons dx_str (dxs_cons dx_str (dxs_cons dx_str (dxs_cons dx_str (dxs_cons (dx_tup (dxs_cons dx_bl (dxs_cons dx_int dxs_nil)) (by show 2 ≤ sizeLine; decide)) (dxs_cons (dx_tup (dxs_cons dx_int (dxs_cons dx_bl dxs_nil)) (by show 2 ≤ sizeLine; decide)) (dxs_cons (dx_lst (dxs_cons dx_int (dxs_cons dx_int dxs_nil)) (by show 2 ≤ sizeLine; decide)) (dxs_cons (dx_tup (dxs_cons dx_int (dxs_cons dx_int (dxs_cons dx_int dxs_nil))) (by show 3 ≤ sizeLine; decide)) (dxs_cons (dx_tup (dxs_cons dx_str (dxs_cons dx_int dxs_nil)) (by show 2 ≤ sizeLine; decide)) dxs_nil)))))))))))))))
      (pss_one (ps_ret (pe_call GOn hr (by rfl) gOn FOn.kp bOn .nil pass0 (pa_cons (pv 0) (pa_cons (pe_op op_cat (pv 1) (pe_lst (dxs_cons (dx_tup (dxs_cons dx_non (dxs_cons dx_int dxs_nil)) (by show 2 ≤ sizeLine; decide)) dxs_nil))) pa_nil))))))), ?_⟩
    have hp : H p ≠ none := C.some
    refine ⟨fun _ => none, (fun _ _ h => nomatch h), fun vs1 G1 H1 m1 d1 => ?_⟩
    have l1 := d1.len
    refine ⟨by rw [l1]; decide, fun a1 n1 => ?_⟩
    have s1 : Same H (upd H1 a1 (.lst vs1)) := m1.hh.trans (Same.upd n1)
    have q1 : Same G1 (upd H1 a1 (.lst vs1)) := m1.gh.trans (Same.upd n1)
    have f1 : ∀ a, H a ≠ none → G1 a = none := fun a h => m1.old a h
    have C1 := C.same s1 (Nat.le_refl _)
    have g1 : upd H1 a1 (.lst vs1) a1 = some (.lst vs1) := upd_same
    revert s1 q1 C1 g1
    generalize upd H1 a1 (.lst vs1) = H2
    intro s1 q1 C1 g1
    refine ⟨_, rfl, G1, q1, fun vs2 G2 H3 m2 d2 => ?_⟩
    have l2 := d2.len
    refine ⟨by rw [l2]; decide, fun a2 n2 => ?_⟩
    have s2 : Same H2 (upd H3 a2 (.lst vs2)) := m2.hh.trans (Same.upd n2)
    have q2 : Same G2 (upd H3 a2 (.lst vs2)) := m2.gh.trans (Same.upd n2)
    have f2 : ∀ a, H a ≠ none → G2 a = none := fun a h => (m2.old a (keep_ne s1 h)).trans (f1 a h)
    have C2 := C1.same s2 (Nat.le_refl _)
    have g2 : upd H3 a2 (.lst vs2) a2 = some (.lst vs2) := upd_same
    revert s2 q2 C2 g2
    generalize upd H3 a2 (.lst vs2) = H4
    intro s2 q2 C2 g2
    refine ⟨a1, a2, vs1, vs2, rfl, rfl, s2 _ _ g1, g2, by rw [l1, l2]; decide, fun a3 n3 => ?_⟩
    have s3 : Same H4 (upd H4 a3 (.lst (vs1 ++ vs2))) := Same.upd n3
    have C3 := C2.same s3 (Nat.le_refl _)
    have g3 : upd H4 a3 (.lst (vs1 ++ vs2)) a3 = some (.lst (vs1 ++ vs2)) := upd_same
    revert s3 C3 g3
    generalize upd H4 a3 (.lst (vs1 ++ vs2)) = H5
    intro s3 C3 g3
    refine ⟨_, rfl, _, rfl, G2, q2.trans s3, fun vs4 G4 H6 m4 d4 => ?_⟩
    have l4 := d4.len
    refine ⟨by rw [l4]; decide, fun a4 n4 => ?_⟩
    have s4 : Same H5 (upd H6 a4 (.lst vs4)) := m4.hh.trans (Same.upd n4)
    have q4 : Same G4 (upd H6 a4 (.lst vs4)) := m4.gh.trans (Same.upd n4)
    have f4 : ∀ a, H a ≠ none → G4 a = none := fun a h => (m4.old a (keep_ne (s1.trans (s2.trans s3)) h)).trans (f2 a h)
    have C4 := C3.same s4 (Nat.le_refl _)
    have g4 : upd H6 a4 (.lst vs4) a4 = some (.lst vs4) := upd_same
    revert s4 q4 C4 g4
    generalize upd H6 a4 (.lst vs4) = H7
    intro s4 q4 C4 g4
    refine ⟨a3, a4, vs1 ++ vs2, vs4, rfl, rfl, s4 _ _ g3, g4, by rw [List.length_append, l1, l2, l4]; decide, fun a5 n5 => ?_⟩
    have s5 : Same H7 (upd H7 a5 (.lst (vs1 ++ vs2 ++ vs4))) := Same.upd n5
    have e5 : DxAll w G4 (vs1 ++ vs2 ++ vs4) oddsS := (((d1.mono m2.gg).append d2).mono m4.gg).append d4
    have C5 := C4.same s5 (Nat.le_refl _)
    have ne : vs1 ++ vs2 ++ vs4 ≠ [] := fun z => by
      have := congrArg List.length z
      rw [List.length_append, List.length_append, l1] at this
      exact absurd this (by simp)
    refine ⟨p, c, t, _, rfl, C5, tt, .inl ⟨a5, _, rfl, C4.not n5, upd_same, ne, by rw [List.length_append, List.length_append, l1, l2, l4]; decide, fun v H' vin b C' => ?_⟩⟩
    obtain ⟨d, di, dd⟩ := dx_in e5 vin
    refine k v d G4 H' ((But.of (s1.trans (s2.trans (s3.trans (s4.trans s5))))).trans b) C' f4 (fun a o h => b a o (fun z => ?_) (s5 _ _ (q4 _ _ h))) dd di
    rw [z, f4 p hp] at h
    cases h
end
end My

set_option linter.all false
namespace My
open PySem PySem.Spec PyProof.Rows L2
/-! ### a row of shares with a part otherwise -/
abbrev sBSR : Stmt := topS 32
abbrev S1 : PyData → Prop := Sz 4000 2
abbrev S2 : PyData → Prop := Sz 16100 4
abbrev SR : PyData → Prop := Sz 650000 6
theorem s0_int {i : Int} (h1 : i.natAbs ≤ 1000) : Sz 1921 0 (.int i) := by
  have hl : i.natAbs.log2 < 1920 := Nat.lt_trans (PySem.Flt.log2_lt_of (k := 1900) (by decide) (Nat.lt_of_le_of_lt h1 (by decide))) (by decide)
  exact ⟨by simp only [PyData.showable]; exact decide_eq_true hl, int_text_len_1921 hl, by simp only [PyData.depth]; omega⟩
theorem s1_int {i : Int} (h1 : i.natAbs ≤ 1000) : S1 (.int i) := (s0_int h1).up (by decide) (by decide)
theorem s1_pair {i j : Int} (h1 : i.natAbs ≤ 1000) (h2 : j.natAbs ≤ 1000) : S1 (.tuple [.int i, .int j]) := (sz_tup (B := 1921) (k := 0) (n := 2) (fun d hd => by
  rcases List.mem_cons.mp hd with rfl | hd
  · exact s0_int h1
  · rw [List.mem_singleton.mp hd]; exact s0_int h2) (by show 2 ≤ 2; decide)).up (by decide) (by decide)
theorem s1_str {x : Str} (h : NameOk x) : S1 (.str x) := (Sz.shw (shw_str h)).up (by decide) (by decide)
theorem s1_text {x : Str} (h : (reprText x).length ≤ 2000) : S1 (.str x) := ⟨by simp only [PyData.showable], by show (reprText x).length ≤ 4000; omega, by simp only [PyData.depth]; omega⟩
theorem s0_text {x : Str} (h : (reprText x).length ≤ 1900) : Sz 1921 0 (.str x) := ⟨by simp only [PyData.showable], by show (reprText x).length ≤ 1921; omega, by simp only [PyData.depth]; omega⟩
theorem s0_bl {b : Bool} : Sz 1921 0 (.bool b) := ⟨by simp only [PyData.showable], by cases b <;> decide, by simp only [PyData.depth]; omega⟩
theorem s0_non : Sz 1921 0 .none := ⟨by simp only [PyData.showable], by decide, by simp only [PyData.depth]; omega⟩
theorem s2_tup {ds : List PyData} (h : ∀ d ∈ ds, S1 d) (hn : ds.length ≤ 4) : S2 (.tuple ds) := (sz_tup (n := 4) h hn).up (by decide) (by decide)
theorem s2_lst {ds : List PyData} (h : ∀ d ∈ ds, S1 d) (hn : ds.length ≤ 4) : S2 (.list ds) := (sz_lst (n := 4) h hn).up (by decide) (by decide)
theorem sr_tup {ds : List PyData} (h : ∀ d ∈ ds, S2 d) (hn : ds.length ≤ 40) : SR (.tuple ds) := (sz_tup (n := 40) h hn).up (by decide) (by decide)
theorem sr_lst {ds : List PyData} (h : ∀ d ∈ ds, S2 d) (hn : ds.length ≤ 40) : SR (.list ds) := (sz_lst (n := 40) h hn).up (by decide) (by decide)
theorem s1_tup0 {ds : List PyData} (h : ∀ d ∈ ds, Sz 1921 0 d) (hn : ds.length ≤ 2) : S1 (.tuple ds) := (sz_tup (n := 2) h hn).up (by decide) (by decide)
theorem s1_lst0 {ds : List PyData} (h : ∀ d ∈ ds, Sz 1921 0 d) (hn : ds.length ≤ 2) : S1 (.list ds) := (sz_lst (n := 2) h hn).up (by decide) (by decide)
theorem s12_tup {ds : List PyData} (h : ∀ d ∈ ds, Sz 1000 0 d) (hn : ds.length ≤ 3) : S1 (.tuple ds) := (sz_tup (n := 3) h hn).up (by decide) (by decide)
/-- a tuple beside the pen -/
abbrev TupS (S : PyData → Prop) (n : Nat) : PyData → Prop := fun d => ∃ ds, d = .tuple ds ∧ (∀ x ∈ ds, S x) ∧ ds.length ≤ n
theorem dx_tup_inv {w : World} {G : Hp} {v : V} {ds : List PyData} (h : Dx w G v (.tuple ds)) : ∃ a xs, v = .ref a ∧ G a = some (.tup xs) ∧ DxAll w G xs ds := by
  cases h with
  | tup h t => exact ⟨_, _, rfl, h, t⟩
theorem dx_new {w : World} {p pc c : Addr} {t : Nat} {H : Hp} {xs : List V} {ds : List PyData} (P : PenD H p pc t) (h : H c = some (.tup xs)) (d : DxAll w (off H p) xs ds) : Dx w (off H p) (.ref c) (.tuple ds) := .tup (P.tup_off h) d
section
variable {X : Cx}
def rSlP (w : World) (p : Addr) : V → Option Int → Option Int → Hp → VK → Prop := fun x lo hi H Q => ∃ (S : PyData → Prop) (n : Nat), H p ≠ none ∧ DX w p (TupS S n) H x ∧ ∀ v H', Same H H' → DX w p (TupS S n) H' v → Q v H'
theorem sl_tupP (p : Addr) : SlR X (rSlP X.w p) := SlR.imp sl_tupG fun x lo hi H Q h => by
  obtain ⟨S, n, hp, ⟨_, hx, ds, rfl, it, ln⟩, k⟩ := h
  obtain ⟨a, xs, e, g, q⟩ := dx_tup_inv hx
  refine ⟨off H p, a, xs, e, off_same, g, fun c G' H' m hc => ?_⟩
  refine k _ _ m.hh ⟨_, Dx.mono (nw_off m hp) (.tup hc (((q.mono m.gg).drop (HT.sIx xs.length 0 lo)).take (HT.sIx xs.length xs.length hi - HT.sIx xs.length 0 lo))), _, rfl, fun d hd => it d (List.mem_of_mem_drop (List.mem_of_mem_take hd)), ?_⟩
  rw [List.length_take, List.length_drop]; omega
def rCatP (w : World) (p : Addr) : R2 := fun x y H Q => ∃ (S : PyData → Prop) (n m : Nat), H p ≠ none ∧ DX w p (TupS S n) H x ∧ DX w p (TupS S m) H y ∧ n + m ≤ 90 ∧ ∀ v H', Same H H' → DX w p (TupS S (n + m)) H' v → Q v H'
theorem op_catP (p : Addr) : OpR X (binaryOp .Add) (rCatP X.w p) := OpR.imp op_catG fun x y H Q h => by
  obtain ⟨S, n, m, hp, ⟨_, hx, ds, rfl, it, ln⟩, ⟨_, hy, ds2, rfl, it2, ln2⟩, b90, k⟩ := h
  obtain ⟨a, xs, e, g, q⟩ := dx_tup_inv hx
  obtain ⟨a2, xs2, e2, g2, q2⟩ := dx_tup_inv hy
  refine ⟨off H p, a, a2, xs, xs2, e, e2, off_same, g, g2, (by rw [q.len, q2.len, sizeLine_eq]; omega), fun c G' H' mm hc => ?_⟩
  refine k _ _ mm.hh ⟨_, Dx.mono (nw_off mm hp) (.tup hc ((q.mono mm.gg).append (q2.mono mm.gg))), _, rfl, fun d hd => ?_, by rw [List.length_append]; omega⟩
  rcases List.mem_append.mp hd with h | h
  · exact it d h
  · exact it2 d h
def rMulP (w : World) (p : Addr) : R2 := fun x y H Q => ∃ (S : PyData → Prop) (k : Int), y = .int k ∧ H p ≠ none ∧ 1 ≤ k ∧ k ≤ 2 ∧ DX w p (fun d => ∃ e, d = .tuple [e] ∧ S e) H x ∧ ∀ v H', Same H H' → DX w p (TupS S 2) H' v → Q v H'
theorem op_mulP (p : Addr) : OpR X (binaryOp .Mult) (rMulP X.w p) := OpR.imp op_mulG fun x y H Q h => by
  obtain ⟨S, k, rfl, hp, k1, k2, ⟨_, hx, d, rfl, sd⟩, q⟩ := h
  obtain ⟨a, xs, e, g, r⟩ := dx_tup_inv hx
  cases r with
  | @cons v vs _ _ dv r =>
    cases r
    refine ⟨off H p, a, k, [v], e, rfl, off_same, g, by simp, by omega, by omega, by simp, fun c G' H' mm hc => ?_⟩
    have e2 : k = 1 ∨ k = 2 := by omega
    have dv' := dv.mono mm.gg
    rcases e2 with rfl | rfl
    · refine q _ _ mm.hh ⟨.tuple [d], Dx.mono (nw_off mm hp) (.tup hc (.cons dv' .nil)), _, rfl, fun x hx => by rw [List.mem_singleton.mp hx]; exact sd, by show 1 ≤ 2; decide⟩
    · refine q _ _ mm.hh ⟨.tuple [d, d], Dx.mono (nw_off mm hp) (.tup hc (.cons dv' (.cons dv' .nil))), _, rfl, fun x hx => by
        rcases List.mem_cons.mp hx with rfl | hx
        · exact sd
        · rw [List.mem_singleton.mp hx]; exact sd, by show 2 ≤ 2; decide⟩
end
theorem odd_s1 : ∀ d ∈ oddsS, S1 d := by
  intro d hd
  have key : ∀ x ∈ oddsS, (∃ i : Int, x = .int i ∧ i.natAbs ≤ 1000) ∨ (∃ b, x = .bool b) ∨ x = .none ∨ (∃ s, x = .str s ∧ (reprText s).length ≤ 1000) ∨ (∃ i j : Int, x = .tuple [.int i, .int j] ∧ i.natAbs ≤ 1000 ∧ j.natAbs ≤ 1000) ∨ x = .tuple [] ∨ x = .list [] ∨ x = .tuple [.bool true, .int 1] ∨ x = .tuple [.int 1, .bool true] ∨ x = .list [.int 1, .int 2] ∨ x = .tuple [.int 1, .int 2, .int 0] ∨ x = .tuple [.str "1", .int 2] ∨ x = .tuple [.none, .int 1] := by
    intro x hx
    unfold oddsS oddsS1 oddsS2 oddsS3 at hx
    simp only [List.cons_append, List.nil_append, List.mem_cons, List.not_mem_nil, or_false] at hx
    rcases hx with rfl | rfl | rfl | rfl | rfl | rfl | rfl | rfl | rfl | rfl | rfl | rfl | rfl | rfl | rfl | rfl | rfl | rfl | rfl | rfl | rfl | rfl | rfl | rfl | rfl | rfl | rfl | rfl | rfl | rfl | rfl | rfl
    all_goals first
      | exact .inl ⟨_, rfl, by decide⟩
      | exact .inr (.inl ⟨_, rfl⟩)
      | exact .inr (.inr (.inl rfl))
      | exact .inr (.inr (.inr (.inl ⟨_, rfl, by decide +kernel⟩)))
      | exact .inr (.inr (.inr (.inr (.inl ⟨_, _, rfl, by decide, by decide⟩))))
      | exact .inr (.inr (.inr (.inr (.inr (.inl rfl)))))
      | exact .inr (.inr (.inr (.inr (.inr (.inr (.inl rfl))))))
      | exact .inr (.inr (.inr (.inr (.inr (.inr (.inr (.inl rfl)))))))
      | exact .inr (.inr (.inr (.inr (.inr (.inr (.inr (.inr (.inl rfl))))))))
      | exact .inr (.inr (.inr (.inr (.inr (.inr (.inr (.inr (.inr (.inl rfl)))))))))
      | exact .inr (.inr (.inr (.inr (.inr (.inr (.inr (.inr (.inr (.inr (.inl rfl))))))))))
      | exact .inr (.inr (.inr (.inr (.inr (.inr (.inr (.inr (.inr (.inr (.inr (.inl rfl)))))))))))
      | exact .inr (.inr (.inr (.inr (.inr (.inr (.inr (.inr (.inr (.inr (.inr (.inr rfl)))))))))))
  rcases key d hd with ⟨i, rfl, h⟩ | ⟨b, rfl⟩ | rfl | ⟨s, rfl, h⟩ | ⟨i, j, rfl, h1, h2⟩ | rfl | rfl | rfl | rfl | rfl | rfl | rfl | rfl
  · exact s1_int h
  · exact s0_bl.up (by decide) (by decide)
  · exact s0_non.up (by decide) (by decide)
  · exact s1_text (by omega)
  · exact s1_pair h1 h2
  · exact s1_tup0 (fun _ h => nomatch h) (by decide)
  · exact s1_lst0 (fun _ h => nomatch h) (by decide)
  · exact s1_tup0 (fun d h => by
      rcases List.mem_cons.mp h with rfl | h
      · exact s0_bl
      · rw [List.mem_singleton.mp h]; exact s0_int (by decide)) (by show 2 ≤ 2; decide)
  · exact s1_tup0 (fun d h => by
      rcases List.mem_cons.mp h with rfl | h
      · exact s0_int (by decide)
      · rw [List.mem_singleton.mp h]; exact s0_bl) (by show 2 ≤ 2; decide)
  · exact s1_lst0 (fun d h => by
      rcases List.mem_cons.mp h with rfl | h
      · exact s0_int (by decide)
      · rw [List.mem_singleton.mp h]; exact s0_int (by decide)) (by show 2 ≤ 2; decide)
  · have l : (PyData.tuple [.int 1, .int 2, .int 0]).shown.length ≤ 4000 := by decide +kernel
    exact ⟨by decide +kernel, l, by decide +kernel⟩
  · exact s1_tup0 (fun d h => by
      rcases List.mem_cons.mp h with rfl | h
      · exact s0_text (by decide +kernel)
      · rw [List.mem_singleton.mp h]; exact s0_int (by decide)) (by show 2 ≤ 2; decide)
  · exact s1_tup0 (fun d h => by
      rcases List.mem_cons.mp h with rfl | h
      · exact s0_non
      · rw [List.mem_singleton.mp h]; exact s0_int (by decide)) (by show 2 ≤ 2; decide)
/-- a row of triples -/
def RowT (d : PyData) : Prop := ∃ row, d = .tuple row ∧ row.length ≤ 12 ∧ row ≠ [] ∧ ∀ x ∈ row, ∃ a y s, x = .tuple [a, y, s] ∧ S1 a ∧ S1 y ∧ S1 s
structure RB (w : World) (p ra : Addr) (at' : Int) (xs : List V) (t0 : Addr) (u0 u1 u2 : V) (H : Hp) : Prop where
  hra : off H p ra = some (.tup xs)
  row : ∃ ds, DxAll w (off H p) xs ds ∧ (∀ d ∈ ds, S2 d) ∧ ds.length ≤ 12
  el : atI xs at' = some (.ref t0)
  h0 : off H p t0 = some (.tup [u0, u1, u2])
  d0 : DX w p S1 H u0
  d1 : DX w p S1 H u1
  d2 : DX w p S1 H u2
section
variable {w : World} {p ra t0 : Addr} {at' : Int} {xs : List V} {u0 u1 u2 : V} {H H' : Hp}
theorem RB.but (R : RB w p ra at' xs t0 u0 u1 u2 H) (b : But p H H') : RB w p ra at' xs t0 u0 u1 u2 H' := by
  obtain ⟨ds, h1, h2, h3⟩ := R.row
  exact ⟨off_but b _ _ R.hra, ⟨ds, h1.mono (off_but b), h2, h3⟩, R.el, off_but b _ _ R.h0, R.d0.but b, R.d1.but b, R.d2.but b⟩
theorem RB.same (R : RB w p ra at' xs t0 u0 u1 u2 H) (b : Same H H') : RB w p ra at' xs t0 u0 u1 u2 H' := R.but (But.of b)
theorem RB.rowX (R : RB w p ra at' xs t0 u0 u1 u2 H) : DX w p (TupS S2 12) H (.ref ra) := by
  obtain ⟨ds, h1, h2, h3⟩ := R.row
  exact ⟨_, .tup R.hra h1, ds, rfl, h2, h3⟩
theorem RB.elX (R : RB w p ra at' xs t0 u0 u1 u2 H) : DX w p (TupS S1 3) H (.ref t0) := by
  obtain ⟨x0, a0, b0⟩ := R.d0
  obtain ⟨x1, a1, b1⟩ := R.d1
  obtain ⟨x2, a2, b2⟩ := R.d2
  refine ⟨_, .tup R.h0 (.cons a0 (.cons a1 (.cons a2 .nil))), _, rfl, fun x hx => ?_, by show 3 ≤ 3; decide⟩
  simp only [List.mem_cons, List.not_mem_nil, or_false] at hx
  rcases hx with rfl | rfl | rfl
  · exact b0
  · exact b1
  · exact b2
theorem DX.s2 {n : Nat} {v : V} (h : DX w p (TupS S1 n) H v) (hn : n ≤ 4) : DX w p S2 H v := h.up fun d ⟨ds, e, a, l⟩ => by rw [e]; exact s2_tup a (by omega)
theorem DX.sr {n : Nat} {v : V} (h : DX w p (TupS S2 n) H v) (hn : n ≤ 40) : DX w p SR H v := h.up fun d ⟨ds, e, a, l⟩ => by rw [e]; exact sr_tup a (by omega)
theorem DX.s2r {v : V} (h : DX w p S2 H v) : DX w p SR H v := h.up fun d a => a.up (by decide) (by decide)
theorem DX.s12 {v : V} (h : DX w p S1 H v) : DX w p S2 H v := h.up fun d a => a.up (by decide) (by decide)
theorem DX.one {S : PyData → Prop} {pc c : Addr} {t : Nat} {v : V} (P : PenD H p pc t) (hc : H c = some (.tup [v])) (h : DX w p S H v) : DX w p (fun d => ∃ e, d = .tuple [e] ∧ S e) H (.ref c) := by
  obtain ⟨d, a, s⟩ := h
  exact ⟨_, dx_new P hc (.cons a .nil), d, rfl, s⟩
theorem DX.one' {S : PyData → Prop} {pc c : Addr} {t : Nat} {v : V} (P : PenD H p pc t) (hc : H c = some (.tup [v])) (h : DX w p S H v) : DX w p (TupS S 1) H (.ref c) :=
  (DX.one P hc h).up fun d ⟨e, r, s⟩ => ⟨[e], r, fun x hx => by rw [List.mem_singleton.mp hx]; exact s, by show 1 ≤ 1; decide⟩
end
def spBSR (w : World) : Sp := fun vs H Q _ => ∃ (p c : Addr) (v : V) (t : Nat), vs = [.ref p, v] ∧ PenD H p c t ∧ t + 20 < 2 ^ 29 ∧ DX w p RowT H v ∧ ∀ v H', But p H H' → PenD H' p c (t + 10) → DX w p SR H' v → Q v H'
section
variable {P : Program} {w : World} {K : PySem.W.Frag} {mg : Str → Option Value} {base : Heap}
theorem scBSR : FnScope ["pen", "row", "way", "at", "other", "k", "triple", "bent"] ["pen", "row"] (defScope sBSR) := ⟨rfl, rfl, rfl, by decide +kernel, rfl, by decide +kernel, by decide +kernel⟩
theorem ok_bsr {f fT fOn fO : Addr} {fd fdT fdOn fdO : FuncData} (F : Fun K "_law_bent_row" "_law_bent_row" sBSR f fd) (T : TxS mg) (mli : mg "list" = none)
    (FT : Fun K "_law_draw" "_law_draw" sDraw fT fdT) (GT : FnOk P w K mg base CX0 2 fT fdT ["pen", "many"] spDraw) (bT : Binds K fdT ["pen", "many"] []) (gT : mg "_law_draw" = some (.ref fT))
    (FOn : Fun K "_law_one_of" "_law_one_of" sOneOf fOn fdOn) (GOn : FnOk P w K mg base CX0 3 fOn fdOn ["pen", "some"] spOneOf) (bOn : Binds K fdOn ["pen", "some"] []) (gOn : mg "_law_one_of" = some (.ref fOn))
    (FO : Fun K "_law_odd" "_law_odd" sOddS fO fdO) (GO : FnOk P w K mg base CX0 4 fO fdO ["pen"] (spOddS w)) (bO : Binds K fdO ["pen"] []) (gO : mg "_law_odd" = some (.ref fO)) :
    FnOk P w K mg base CX0 5 f fd ["pen", "row"] (spBSR w) := by
  refine F.ok scBSR (fun vs H Q E h => ?_) (fun cdv A outer s H vs Q E hr h => ?_)
  · obtain ⟨p, c, v, t, rfl, _⟩ := h
    rfl
  · obtain ⟨p, c, v, t, rfl, C, tt, hv, k⟩ := h
    have hr4 := hr
    have hr3 : Room 3 _ := hr.mono (by decide)
    have hr2 : Room 2 _ := hr.mono (by decide)
    refine ⟨_, (pss_cons (ps_set (i := 2) scBSR.nd rfl (Or.inl rfl) (pe_call GT hr2 (by rfl) gT FT.kp bT .nil pass0 (pa_cons (pv 0) (pa_cons pe_int pa_nil))))
      (pss_cons (ps_set (i := 3) scBSR.nd rfl (Or.inl rfl) (pe_call GT hr2 (by rfl) gT FT.kp bT .nil pass0 (pa_cons (pv 0) (pa_cons (pe_callB call_len_seq (by rfl) T.len PySem.boot_len (pa_cons (pv 1) pa_nil)) pa_nil))))
      (pss_cons (ps_if (pt_cmpR op_eq (pv 2) pe_int (nomark _)) (pss_one (ps_ret (pe_op (op_catP p) (pe_op (op_catP p) (pe_slice (sl_tupP p) (pv 1) po_none (po_some (pv 3))) (pe_tupS (pa_cons (pe_op (op_catP p) (pe_slice (sl_tupP p) (pe_ix ix_tup (pv 1) (pv 3) (fun _ _ => rfl)) po_none (po_some pe_int)) (pe_tupS (pa_cons (pe_tupS (pa_cons pe_int (pa_cons pe_int pa_nil))) pa_nil))) pa_nil))) (pe_slice (sl_tupP p) (pv 1) (po_some (pv 3)) po_none)))) pss_nil)
      (pss_cons (ps_if (pt_cmpR op_eq (pv 2) pe_int (nomark _)) (pss_cons (ps_set (i := 4) scBSR.nd rfl (Or.inl rfl) (pe_call GOn hr3 (by rfl) gOn FOn.kp bOn .nil pass0 (pa_cons (pv 0) (pa_cons (pe_lstS (pa_cons (pe_slice (sl_tupP p) (pe_ix ix_tup (pv 1) (pv 3) (fun _ _ => rfl)) po_none (po_some pe_int)) (pa_cons (pe_ix ix_tup (pe_ix ix_tup (pv 1) (pv 3) (fun _ _ => rfl)) pe_int (fun _ _ => rfl)) (pa_cons pe_non (pa_cons (pe_tupS pa_nil) pa_nil))))) pa_nil))))
      (pss_one (ps_ret (pe_op (op_catP p) (pe_op (op_catP p) (pe_slice (sl_tupP p) (pv 1) po_none (po_some (pv 3))) (pe_tupS (pa_cons (pv 4) pa_nil))) (pe_slice (sl_tupP p) (pv 1) (po_some (pe_op op_add (pv 3) pe_int)) po_none))))) pss_nil)
      (pss_cons (ps_if (pt_cmpR op_eq (pv 2) pe_int (nomark _)) (pss_one (ps_ret (pe_ix ix_list (pe_lstS (pa_cons (pe_tupS pa_nil) (pa_cons (pe_callTy call_list_of (by rfl) mli boot_list (pa_cons (pv 1) pa_nil)) (pa_cons (pe_op (op_catP p) (pv 1) (pe_slice (sl_tupP p) (pv 1) po_none (po_some pe_int))) (pa_cons (pe_revT (pv 1)) (pa_cons pe_non pa_nil)))))) (pe_call GT hr2 (by rfl) gT FT.kp bT .nil pass0 (pa_cons (pv 0) (pa_cons pe_int pa_nil))) (fun _ _ => rfl)))) pss_nil)
      (pss_cons (ps_if (pt_cmpR op_eq (pv 2) pe_int (nomark _)) (pss_one (ps_ret (pe_op (op_catP p) (pe_slice (sl_tupP p) (pv 1) po_none (po_some (pv 3))) (pe_slice (sl_tupP p) (pv 1) (po_some (pe_op op_add (pv 3) pe_int)) po_none)))) pss_nil)
      (pss_cons (ps_if (pt_cmpR op_eq (pv 2) pe_int (nomark _)) (pss_one (ps_ret (pe_op (op_catP p) (pe_op (op_catP p) (pe_slice (sl_tupP p) (pv 1) po_none (po_some (pv 3))) (pe_tupS (pa_cons (pe_op (op_catP p) (pe_slice (sl_tupP p) (pe_ix ix_tup (pv 1) (pv 3) (fun _ _ => rfl)) po_none (po_some pe_int)) (pe_tupS (pa_cons (pe_tupS (pa_cons pe_int (pa_cons pe_int pa_nil))) pa_nil))) pa_nil))) (pe_slice (sl_tupP p) (pv 1) (po_some (pv 3)) po_none)))) pss_nil)
      (pss_cons (ps_if (pt_cmpR op_eq (pv 2) pe_int (nomark _)) (pss_one (ps_ret (pe_op (op_catP p) (pe_slice (sl_tupP p) (pv 1) po_none (po_some (pv 3))) (pe_op (op_mulP p) (pe_tupS (pa_cons (pe_op (op_catP p) (pe_slice (sl_tupP p) (pe_ix ix_tup (pv 1) (pv 3) (fun _ _ => rfl)) po_none (po_some pe_int)) (pe_tupS (pa_cons (pe_tupS (pa_cons pe_int (pa_cons pe_int pa_nil))) pa_nil))) pa_nil)) (pe_op op_add pe_int (pe_call GT hr2 (by rfl) gT FT.kp bT .nil pass0 (pa_cons (pv 0) (pa_cons pe_int pa_nil)))))))) pss_nil)
      (pss_cons (ps_set (i := 5) scBSR.nd rfl (Or.inl rfl) (pe_call GT hr2 (by rfl) gT FT.kp bT .nil pass0 (pa_cons (pv 0) (pa_cons pe_int pa_nil))))
      (pss_cons (ps_set (i := 6) scBSR.nd rfl (Or.inl rfl) (pe_callTy call_list_of (by rfl) mli boot_list (pa_cons (pe_ix ix_tup (pv 1) (pv 3) (fun _ _ => rfl)) pa_nil)))
      (pss_cons (ps_asg (pe_call GO hr4 (by rfl) gO FO.kp bO .nil pass0 (pa_cons (pv 0) pa_nil)) (pg_sub (pv 6) (pv 5) set_list))
      (pss_cons (ps_set (i := 7) scBSR.nd rfl (Or.inl rfl) (pe_ix ix_list (pe_lstS (pa_cons (pe_callTy call_tuple_of (by rfl) T.tuple boot_tuple (pa_cons (pv 6) pa_nil)) (pa_cons (pv 6) (pa_cons (pe_op (op_catP p) (pe_callTy call_tuple_of (by rfl) T.tuple boot_tuple (pa_cons (pv 6) pa_nil)) (pe_tupS (pa_cons pe_int pa_nil))) (pa_cons (pe_callTy call_tuple_of (by rfl) T.tuple boot_tuple (pa_cons (pv 6) pa_nil)) pa_nil))))) (pe_call GT hr2 (by rfl) gT FT.kp bT .nil pass0 (pa_cons (pv 0) (pa_cons pe_int pa_nil))) (fun _ _ => rfl)))
      (pss_one (ps_ret (pe_op (op_catP p) (pe_op (op_catP p) (pe_slice (sl_tupP p) (pv 1) po_none (po_some (pv 3))) (pe_tupS (pa_cons (pv 7) pa_nil))) (pe_slice (sl_tupP p) (pv 1) (po_some (pe_op op_add (pv 3) pe_int)) po_none)))))))))))))))), ?_⟩
    obtain ⟨_, hx, row, rfl, r12, rne, rf⟩ := hv
    obtain ⟨ra, xs, rfl, hra, hxs⟩ := dx_tup_inv hx
    have lxs := hxs.len
    have lr := List.length_pos_iff.mpr rne
    refine ⟨_, rfl, p, c, 10, t, rfl, by decide, by decide, C, by omega, fun wy H1 w0 w1 b1 C1 => ?_⟩
    have hra1 := off_but b1 _ _ hra
    have hxs1 := hxs.mono (off_but b1)
    refine ⟨_, rfl, _, rfl, ra, xs, rfl, .inr (SqT.of (off_same _ _ hra1)), ?_⟩
    refine ⟨p, c, _, _, rfl, by omega, small_int (by omega) (by omega), C1, by omega, fun at' H2 a0 a1 b2 C2 => ?_⟩
    have b02 := b1.trans b2
    obtain ⟨vat, eat, hat⟩ := at_mem (xs := xs) a0 a1
    obtain ⟨dat, din, hdat⟩ := dx_in (hxs1.mono (off_but b2)) eat
    obtain ⟨x0, x1, x2, rfl, y0, y1, y2⟩ := rf _ din
    obtain ⟨t0, us, rfl, ht0, hus⟩ := dx_tup_inv hdat
    cases hus with
    | @cons u0 _ _ _ z0 hus =>
    cases hus with
    | @cons u1 _ _ _ z1 hus =>
    cases hus with
    | @cons u2 _ _ _ z2 hus =>
    cases hus
    have R : RB w p ra at' xs t0 u0 u1 u2 H2 := ⟨off_but b2 _ _ hra1, ⟨row, hxs1.mono (off_but b2), fun d hd => by
      obtain ⟨a, b, s, rfl, q1, q2, q3⟩ := rf d hd
      exact s2_tup (fun x hx => by
        simp only [List.mem_cons, List.not_mem_nil, or_false] at hx
        rcases hx with rfl | rfl | rfl
        · exact q1
        · exact q2
        · exact q3) (by show 3 ≤ 4; decide), r12⟩, hat, ht0, ⟨_, z0, y0⟩, ⟨_, z1, y1⟩, ⟨_, z2, y2⟩⟩
    clear hx hra hxs hra1 hxs1 lxs ht0 z0 z1 z2 hdat

    refine ⟨_, rfl, rfl, _, rfl, ite2 (fun _ => ?_) (fun c_ => ?_)⟩
    · refine ⟨_, rfl, _, rfl, _, rfl, S2, 12, C2.some, R.rowX, fun v0 Ha sa d0 => ?_⟩
      have Ca := C2.same sa (Nat.le_refl _)
      have Ra := R.same sa
      refine ⟨_, rfl, _, rfl, ra, xs, at', .ref t0, rfl, rfl, SqT.of (off_same _ _ Ra.hra), Ra.el, 2, rfl, S1, 3, Ca.some, Ra.elX, fun v1 Hb sb d1 => ?_⟩
      have Cb := Ca.same sb (Nat.le_refl _)
      refine ⟨(by show 2 ≤ sizeLine; decide), fun c1 Hc sc hc1 => ?_⟩
      have Cc := Cb.same sc (Nat.le_refl _)
      have e1 : DX w p S1 Hc (.ref c1) := ⟨_, dx_new Cc hc1 (.cons (.int _) (.cons (.int _) .nil)), s1_pair (by decide) (by decide)⟩
      refine ⟨(by show 1 ≤ sizeLine; decide), fun c2 Hd sd hc2 => ?_⟩
      have Cd := Cc.same sd (Nat.le_refl _)
      refine ⟨S1, 3, 1, Cd.some, d1.but (But.of (sc.trans sd)), DX.one' Cd hc2 (e1.but (But.of sd)), by decide, fun v2 He se d2 => ?_⟩
      have Ce := Cd.same se (Nat.le_refl _)
      refine ⟨(by show 1 ≤ sizeLine; decide), fun c3 Hf sf hc3 => ?_⟩
      have Cf := Ce.same sf (Nat.le_refl _)
      have d3 := DX.one Cf hc3 ((d2.s2 (by decide)).but (But.of sf))
      have saf := ((((sb.trans sc).trans sd).trans se).trans sf)
      have Rf := Ra.same saf
      refine ⟨S2, 12, 1, Cf.some, d0.but (But.of saf), d3.up fun d ⟨e, r, s⟩ => ⟨[e], r, fun x hx => by rw [List.mem_singleton.mp hx]; exact s, by show 1 ≤ 1; decide⟩, by decide, fun v4 Hg sg d4 => ?_⟩
      have Cg := Cf.same sg (Nat.le_refl _)
      refine ⟨_, rfl, _, rfl, _, rfl, S2, 12, Cg.some, (Rf.same sg).rowX, fun v5 Hh sh d5 => ?_⟩
      have Ch := Cg.same sh (Nat.le_refl _)
      refine ⟨S2, 13, 12, Ch.some, d4.but (But.of sh), d5, by decide, fun v6 Hi si d6 => ?_⟩
      exact k _ _ (b02.trans (But.of ((((sa.trans saf).trans sg).trans sh).trans si))) (Ch.same si (by omega)) (d6.sr (by decide))
    refine ⟨_, rfl, rfl, _, rfl, ite2 (fun _ => ?_) (fun c_ => ?_)⟩
    · refine ⟨_, rfl, _, rfl, _, rfl, ra, xs, at', .ref t0, rfl, rfl, SqT.of (off_same _ _ R.hra), R.el, 2, rfl, S1, 3, C2.some, R.elX, fun v1 Ha sa d1 => ?_⟩
      have Ca := C2.same sa (Nat.le_refl _)
      have Ra := R.same sa
      refine ⟨_, rfl, _, rfl, ra, xs, at', .ref t0, rfl, rfl, SqT.of (off_same _ _ Ra.hra), Ra.el, t0, _, 0, u0, rfl, rfl, SqT.of (off_same _ _ Ra.h0), rfl, ?_⟩
      refine ⟨(by show 0 ≤ sizeLine; decide), fun e Hb sb he => ?_⟩
      have Cb := Ca.same sb (Nat.le_refl _)
      refine ⟨(by show 4 ≤ sizeLine; decide), fun l Hc sc nl hl => ?_⟩
      have Cc := Cb.same sc (Nat.le_refl _)
      refine ⟨p, c, _, _, rfl, Cc, by omega, .inl ⟨l, _, rfl, Cb.not nl, hl, by simp, by show 4 ≤ 1000; decide, fun v Hd vin bd Cd => ?_⟩⟩
      have bcd : But p Hb Hd := (But.of sc).trans bd
      have hv : DX w p S2 Hd v := by
        simp only [List.mem_cons, List.not_mem_nil, or_false] at vin
        rcases vin with rfl | rfl | rfl | rfl
        · exact ((d1.s2 (by decide)).but (But.of sb)).but bcd
        · exact (Ra.d0.but (But.of sb)).s12.but bcd
        · exact ⟨.none, .non, s0_non.up (by decide) (by decide)⟩
        · exact DX.but ⟨.tuple [], dx_new Cb he .nil, s2_tup (fun _ h => nomatch h) (by decide)⟩ bcd
      have b2d : But p H2 Hd := (But.of (sa.trans sb)).trans bcd
      have Rd := R.but b2d
      refine ⟨_, rfl, _, rfl, _, rfl, S2, 12, Cd.some, Rd.rowX, fun v1 He se d1 => ?_⟩
      have Ce := Cd.same se (Nat.le_refl _)
      refine ⟨_, rfl, (by show 1 ≤ sizeLine; decide), fun c3 Hf sf hc3 => ?_⟩
      have Cf := Ce.same sf (Nat.le_refl _)
      refine ⟨S2, 12, 1, Cf.some, d1.but (But.of sf), DX.one' Cf hc3 (hv.but (But.of (se.trans sf))), by decide, fun v4 Hg sg d4 => ?_⟩
      have Cg := Cf.same sg (Nat.le_refl _)
      refine ⟨_, rfl, _, rfl, _, _, rfl, rfl, _, rfl, S2, 12, Cg.some, (Rd.same ((se.trans sf).trans sg)).rowX, fun v5 Hh sh d5 => ?_⟩
      have Ch := Cg.same sh (Nat.le_refl _)
      refine ⟨S2, 13, 12, Ch.some, d4.but (But.of sh), d5, by decide, fun v6 Hi si d6 => ?_⟩
      exact k _ _ ((b02.trans b2d).trans (But.of ((((se.trans sf).trans sg).trans sh).trans si))) (Ch.same si (by omega)) (d6.sr (by decide))
    refine ⟨_, rfl, rfl, _, rfl, ite2 (fun _ => ?_) (fun c_ => ?_)⟩
    · refine ⟨(by show 0 ≤ sizeLine; decide), fun e Ha sa he => ?_⟩
      have Ca := C2.same sa (Nat.le_refl _)
      have Ra := R.same sa
      have de : DX w p SR Ha (.ref e) := ⟨.tuple [], dx_new Ca he .nil, sr_tup (fun _ h => nomatch h) (by decide)⟩
      refine ⟨_, rfl, ra, xs, rfl, .inr (SqT.of (off_same _ _ Ra.hra)), fun l1 n1 => ?_⟩
      have sb : Same Ha (upd Ha l1 (.lst xs)) := Same.upd n1
      have Cb := Ca.same sb (Nat.le_refl _)
      have Rb := Ra.same sb
      have dl : DX w p SR (upd Ha l1 (.lst xs)) (.ref l1) := by
        obtain ⟨ds, h1, h2, h3⟩ := Rb.row
        exact ⟨.list ds, .lst (by rw [off_ne (Ca.not n1)]; exact upd_same) h1, sr_lst h2 (by omega)⟩
      show tOp _ _ _ _ (upd Ha l1 (.lst xs)) _
      revert sb Cb Rb dl
      generalize upd Ha l1 (.lst xs) = Hb
      intro sb Cb Rb dl
      refine ⟨_, rfl, _, rfl, 1, rfl, S2, 12, Cb.some, Rb.rowX, fun v1 Hc sc d1 => ?_⟩
      have Cc := Cb.same sc (Nat.le_refl _)
      refine ⟨S2, 12, 12, Cc.some, (Rb.same sc).rowX, d1, by decide, fun v2 Hd sd d2 => ?_⟩
      have Cd := Cc.same sd (Nat.le_refl _)
      have Rd := Rb.same (sc.trans sd)
      refine ⟨_, rfl, ra, xs, rfl, SqT.of (off_same _ _ Rd.hra), fun q nq => ?_⟩
      have se : Same Hd (upd Hd q (.tup xs.reverse)) := Same.upd nq
      have Ce := Cd.same se (Nat.le_refl _)
      have dr : DX w p SR (upd Hd q (.tup xs.reverse)) (.ref q) := by
        obtain ⟨ds, h1, h2, h3⟩ := (Rd.same se).row
        exact ⟨.tuple ds.reverse, dx_new Ce upd_same h1.rev, sr_tup (fun d hd => h2 d (List.mem_reverse.mp hd)) (by rw [List.length_reverse]; omega)⟩
      revert se Ce dr
      generalize upd Hd q (.tup xs.reverse) = He
      intro se Ce dr
      refine ⟨(by show 5 ≤ sizeLine; decide), fun l Hf sf nl hl => ?_⟩
      have Cf := Ce.same sf (Nat.le_refl _)
      refine ⟨_, rfl, p, c, 5, _, rfl, by decide, by decide, Cf, by omega, fun i Hg i0 i1 bg Cg => ?_⟩
      obtain ⟨v, vin, ev⟩ := at_mem (xs := [V.ref e, V.ref l1, v2, V.ref q, V.non]) i0 i1
      refine ⟨l, _, _, v, rfl, rfl, SqL.of (bg _ _ (Ce.not nl) hl), ev, k _ _ ((b02.trans (But.of (((((sa.trans sb).trans sc).trans sd).trans se).trans sf))).trans bg) (Cg.same (Same.refl _) (by omega)) ?_⟩
      have bfg : But p He Hg := (But.of sf).trans bg
      simp only [List.mem_cons, List.not_mem_nil, or_false] at vin
      rcases vin with rfl | rfl | rfl | rfl | rfl
      · exact (de.but (But.of (((sb.trans sc).trans sd).trans se))).but bfg
      · exact (dl.but (But.of ((sc.trans sd).trans se))).but bfg
      · exact ((d2.sr (by decide)).but (But.of se)).but bfg
      · exact dr.but bfg
      · exact ⟨.none, .non, s0_non.up (by decide) (by decide)⟩
    refine ⟨_, rfl, rfl, _, rfl, ite2 (fun _ => ?_) (fun c_ => ?_)⟩
    · refine ⟨_, rfl, _, rfl, _, rfl, S2, 12, C2.some, R.rowX, fun v0 Ha sa d0 => ?_⟩
      have Ca := C2.same sa (Nat.le_refl _)
      have Ra := R.same sa
      refine ⟨_, rfl, _, rfl, _, _, rfl, rfl, _, rfl, S2, 12, Ca.some, Ra.rowX, fun v5 Hh sh d5 => ?_⟩
      have Ch := Ca.same sh (Nat.le_refl _)
      refine ⟨S2, 12, 12, Ch.some, d0.but (But.of sh), d5, by decide, fun v6 Hi si d6 => ?_⟩
      exact k _ _ (b02.trans (But.of ((sa.trans sh).trans si))) (Ch.same si (by omega)) (d6.sr (by decide))
    refine ⟨_, rfl, rfl, _, rfl, ite2 (fun _ => ?_) (fun c_ => ?_)⟩
    · refine ⟨_, rfl, _, rfl, _, rfl, S2, 12, C2.some, R.rowX, fun v0 Ha sa d0 => ?_⟩
      have Ca := C2.same sa (Nat.le_refl _)
      have Ra := R.same sa
      refine ⟨_, rfl, _, rfl, ra, xs, at', .ref t0, rfl, rfl, SqT.of (off_same _ _ Ra.hra), Ra.el, 2, rfl, S1, 3, Ca.some, Ra.elX, fun v1 Hb sb d1 => ?_⟩
      have Cb := Ca.same sb (Nat.le_refl _)
      refine ⟨(by show 2 ≤ sizeLine; decide), fun c1 Hc sc hc1 => ?_⟩
      have Cc := Cb.same sc (Nat.le_refl _)
      have e1 : DX w p S1 Hc (.ref c1) := ⟨_, dx_new Cc hc1 (.cons (.int _) (.cons (.int _) .nil)), s1_pair (by decide) (by decide)⟩
      refine ⟨(by show 1 ≤ sizeLine; decide), fun c2 Hd sd hc2 => ?_⟩
      have Cd := Cc.same sd (Nat.le_refl _)
      refine ⟨S1, 3, 1, Cd.some, d1.but (But.of (sc.trans sd)), DX.one' Cd hc2 (e1.but (But.of sd)), by decide, fun v2 He se d2 => ?_⟩
      have Ce := Cd.same se (Nat.le_refl _)
      refine ⟨(by show 1 ≤ sizeLine; decide), fun c3 Hf sf hc3 => ?_⟩
      have Cf := Ce.same sf (Nat.le_refl _)
      have d3 := DX.one Cf hc3 ((d2.s2 (by decide)).but (But.of sf))
      have saf := ((((sb.trans sc).trans sd).trans se).trans sf)
      have Rf := Ra.same saf
      refine ⟨S2, 12, 1, Cf.some, d0.but (But.of saf), d3.up fun d ⟨e, r, s⟩ => ⟨[e], r, fun x hx => by rw [List.mem_singleton.mp hx]; exact s, by show 1 ≤ 1; decide⟩, by decide, fun v4 Hg sg d4 => ?_⟩
      have Cg := Cf.same sg (Nat.le_refl _)
      refine ⟨_, rfl, _, rfl, _, rfl, S2, 12, Cg.some, (Rf.same sg).rowX, fun v5 Hh sh d5 => ?_⟩
      have Ch := Cg.same sh (Nat.le_refl _)
      refine ⟨S2, 13, 12, Ch.some, d4.but (But.of sh), d5, by decide, fun v6 Hi si d6 => ?_⟩
      exact k _ _ (b02.trans (But.of ((((sa.trans saf).trans sg).trans sh).trans si))) (Ch.same si (by omega)) (d6.sr (by decide))
    refine ⟨_, rfl, rfl, _, rfl, ite2 (fun _ => ?_) (fun c_ => ?_)⟩
    · refine ⟨_, rfl, _, rfl, _, rfl, S2, 12, C2.some, R.rowX, fun v0 Ha sa d0 => ?_⟩
      have Ca := C2.same sa (Nat.le_refl _)
      have Ra := R.same sa
      refine ⟨_, rfl, _, rfl, ra, xs, at', .ref t0, rfl, rfl, SqT.of (off_same _ _ Ra.hra), Ra.el, 2, rfl, S1, 3, Ca.some, Ra.elX, fun v1 Hb sb d1 => ?_⟩
      have Cb := Ca.same sb (Nat.le_refl _)
      refine ⟨(by show 2 ≤ sizeLine; decide), fun c1 Hc sc hc1 => ?_⟩
      have Cc := Cb.same sc (Nat.le_refl _)
      have e1 : DX w p S1 Hc (.ref c1) := ⟨_, dx_new Cc hc1 (.cons (.int _) (.cons (.int _) .nil)), s1_pair (by decide) (by decide)⟩
      refine ⟨(by show 1 ≤ sizeLine; decide), fun c2 Hd sd hc2 => ?_⟩
      have Cd := Cc.same sd (Nat.le_refl _)
      refine ⟨S1, 3, 1, Cd.some, d1.but (But.of (sc.trans sd)), DX.one' Cd hc2 (e1.but (But.of sd)), by decide, fun v2 He se d2 => ?_⟩
      have Ce := Cd.same se (Nat.le_refl _)
      refine ⟨(by show 1 ≤ sizeLine; decide), fun c3 Hf sf hc3 => ?_⟩
      have Cf := Ce.same sf (Nat.le_refl _)
      have d3 := DX.one Cf hc3 ((d2.s2 (by decide)).but (But.of sf))
      have saf := ((((sb.trans sc).trans sd).trans se).trans sf)
      have Rf := Ra.same saf
      refine ⟨_, rfl, p, c, 2, _, rfl, by decide, by decide, Cf, by omega, fun i Hg i0 i1 bg Cg => ?_⟩
      refine ⟨_, _, rfl, rfl, S2, 1 + i, rfl, Cg.some, by omega, by omega, d3.but bg, fun v4 Hh sh d4 => ?_⟩
      have Ch := Cg.same sh (Nat.le_refl _)
      refine ⟨S2, 12, 2, Ch.some, ((d0.but (But.of saf)).but bg).but (But.of sh), d4, by decide, fun v6 Hi si d6 => ?_⟩
      exact k _ _ (((b02.trans (But.of (sa.trans saf))).trans bg).trans (But.of (sh.trans si))) (Ch.same si (by omega)) (d6.sr (by decide))
    refine ⟨_, rfl, p, c, 3, _, rfl, by decide, by decide, C2, by omega, fun kk H3 k0 k1 b3 C3 => ?_⟩
    have R3 := R.but b3
    refine ⟨_, rfl, _, rfl, ra, xs, at', .ref t0, rfl, rfl, SqT.of (off_same _ _ R3.hra), R3.el, t0, _, rfl, .inr (SqT.of (off_same _ _ R3.h0)), fun tl ntl => ?_⟩
    have s4 : Same H3 (upd H3 tl (.lst [u0, u1, u2])) := Same.upd ntl
    have C4 := C3.same s4 (Nat.le_refl _)
    have tlp : tl ≠ p := C3.not ntl
    have tlc : tl ≠ c := fun z => C3.at_c (by rw [← z]; exact ntl)
    have htl : upd H3 tl (.lst [u0, u1, u2]) tl = some (.lst [u0, u1, u2]) := upd_same
    revert s4 C4 htl
    generalize upd H3 tl (.lst [u0, u1, u2]) = H4
    intro s4 C4 htl
    refine ⟨_, rfl, p, c, _, rfl, C4, by omega, fun vo dd G H5 b5 C5 fr sg dx di => ?_⟩
    have htl5 := b5 _ _ tlp htl
    refine ⟨_, rfl, _, rfl, tl, _, kk, kk.toNat, rfl, rfl, htl5, (by rcases (by omega : kk = 0 ∨ kk = 1 ∨ kk = 2) with rfl | rfl | rfl <;> rfl), ?_⟩
    have b36 : But p H3 (upd H5 tl (.lst ([u0, u1, u2].set kk.toNat vo))) := fun a o ap h => by
      rw [upd_ne (fun z => by rw [z, ntl] at h; cases h)]
      exact b5 a o ap (s4 a o h)
    have R6 := R3.but b36
    have C6 : PenD (upd H5 tl (.lst ([u0, u1, u2].set kk.toNat vo))) p c _ := C5.agree tlp tlc (fun b hb => upd_ne hb) (Nat.le_refl _)
    have do6 : DX w p S1 (upd H5 tl (.lst ([u0, u1, u2].set kk.toNat vo))) vo := ⟨dd, dx.mono fun a o h => by
      have ap : a ≠ p := fun z => by rw [z, fr p C4.some] at h; cases h
      have at_ : a ≠ tl := fun z => by rw [z, fr tl (by rw [htl]; exact fun y => nomatch y)] at h; cases h
      rw [off_ne ap, upd_ne at_]; exact sg a o h, odd_s1 dd di⟩
    obtain ⟨w0, w1, w2, ew, dw⟩ : ∃ w0 w1 w2, [u0, u1, u2].set kk.toNat vo = [w0, w1, w2] ∧ ∀ v ∈ [w0, w1, w2], DX w p S1 (upd H5 tl (.lst ([u0, u1, u2].set kk.toNat vo))) v := by
      have hk : kk = 0 ∨ kk = 1 ∨ kk = 2 := by omega
      rcases hk with rfl | rfl | rfl
      · exact ⟨_, _, _, rfl, fun v hv => by
          simp only [List.mem_cons, List.not_mem_nil, or_false] at hv
          rcases hv with rfl | rfl | rfl
          · exact do6
          · exact R6.d1
          · exact R6.d2⟩
      · exact ⟨_, _, _, rfl, fun v hv => by
          simp only [List.mem_cons, List.not_mem_nil, or_false] at hv
          rcases hv with rfl | rfl | rfl
          · exact R6.d0
          · exact do6
          · exact R6.d2⟩
      · exact ⟨_, _, _, rfl, fun v hv => by
          simp only [List.mem_cons, List.not_mem_nil, or_false] at hv
          rcases hv with rfl | rfl | rfl
          · exact R6.d0
          · exact R6.d1
          · exact do6⟩
    rw [ew] at b36 R6 C6 do6 dw
    rw [ew]
    have htl6 : upd H5 tl (.lst [w0, w1, w2]) tl = some (.lst [w0, w1, w2]) := upd_same
    generalize upd H5 tl (.lst [w0, w1, w2]) = H6 at b36 R6 C6 do6 dw htl6 ⊢
    clear do6 htl5 htl b5 C5 s4 C4 sg fr dx di ew
    have trip : ∀ {Hx : Hp} {q tt : Nat} {qa : Addr}, But p H6 Hx → PenD Hx p c tt → Hx qa = some (.tup [w0, w1, w2]) → DX w p (TupS S1 3) Hx (.ref qa) := fun bx Cx hq => by
      obtain ⟨x0, a0, c0⟩ := (dw w0 (by simp)).but bx
      obtain ⟨x1, a1, c1⟩ := (dw w1 (by simp)).but bx
      obtain ⟨x2, a2, c2⟩ := (dw w2 (by simp)).but bx
      refine ⟨_, dx_new Cx hq (.cons a0 (.cons a1 (.cons a2 .nil))), _, rfl, fun x hx => ?_, by show 3 ≤ 3; decide⟩
      simp only [List.mem_cons, List.not_mem_nil, or_false] at hx
      rcases hx with rfl | rfl | rfl
      · exact c0
      · exact c1
      · exact c2
    -- bent
    refine ⟨_, rfl, tl, _, rfl, .inl ⟨SqL.of htl6, fun q1 n1 => ?_⟩⟩
    have s7 : Same H6 (upd H6 q1 (.tup [w0, w1, w2])) := Same.upd n1
    have C7 := C6.same s7 (Nat.le_refl _)
    have e7 := trip (q := 0) (But.of s7) C7 upd_same
    have htl7 := s7 _ _ htl6
    revert s7 C7 e7 htl7
    generalize upd H6 q1 (.tup [w0, w1, w2]) = H7
    intro s7 C7 e7 htl7
    refine ⟨_, rfl, ?_⟩
    refine ⟨_, rfl, tl, _, rfl, .inl ⟨SqL.of htl7, fun q2 n2 => ?_⟩⟩
    have s8 : Same H7 (upd H7 q2 (.tup [w0, w1, w2])) := Same.upd n2
    have C8' := C7.same s8 (Nat.le_refl _)
    have e8 := trip (q := 0) (But.of (s7.trans s8)) C8' upd_same
    have htl8 := s8 _ _ htl7
    revert s8 C8' e8 htl8
    generalize upd H7 q2 (.tup [w0, w1, w2]) = H8
    intro s8 C8' e8 htl8
    refine ⟨(by show 1 ≤ sizeLine; decide), fun e Hc sc he => ?_⟩
    have Cc := C8'.same sc (Nat.le_refl _)
    refine ⟨S1, 3, 1, Cc.some, e8.but (But.of sc), DX.one' Cc he ⟨.int 0, .int 0, s1_int (by decide)⟩, by decide, fun v2 Hd sd d2 => ?_⟩
    have Cd := Cc.same sd (Nat.le_refl _)
    have htld := sd _ _ (sc _ _ htl8)
    refine ⟨_, rfl, tl, _, rfl, .inl ⟨SqL.of htld, fun q3 n3 => ?_⟩⟩
    have se : Same Hd (upd Hd q3 (.tup [w0, w1, w2])) := Same.upd n3
    have Ce := Cd.same se (Nat.le_refl _)
    have sde := ((s8.trans sc).trans sd).trans se
    have e9 := trip (q := 0) (But.of (s7.trans sde)) Ce upd_same
    have htle := se _ _ htld
    generalize upd Hd q3 (.tup [w0, w1, w2]) = He at se Ce e9 htle sde ⊢
    refine ⟨(by show 4 ≤ sizeLine; decide), fun l Hf sf nl hl => ?_⟩
    have Cf := Ce.same sf (Nat.le_refl _)
    refine ⟨_, rfl, p, c, 4, _, rfl, by decide, by decide, Cf, by omega, fun i Hg i0 i1 bg Cg => ?_⟩
    obtain ⟨v, vin, ev⟩ := at_mem (xs := [V.ref q1, V.ref tl, v2, V.ref q3]) i0 i1
    refine ⟨l, _, _, v, rfl, rfl, SqL.of (bg _ _ (Ce.not nl) hl), ev, ?_⟩
    have beg : But p He Hg := (But.of sf).trans bg
    have hv : DX w p S2 Hg v := by
      simp only [List.mem_cons, List.not_mem_nil, or_false] at vin
      rcases vin with rfl | rfl | rfl | rfl
      · exact ((e7.s2 (by decide)).but (But.of sde)).but beg
      · obtain ⟨x0, a0, c0⟩ := (dw w0 (by simp)).but ((But.of (s7.trans sde)).trans beg)
        obtain ⟨x1, a1, c1⟩ := (dw w1 (by simp)).but ((But.of (s7.trans sde)).trans beg)
        obtain ⟨x2, a2, c2⟩ := (dw w2 (by simp)).but ((But.of (s7.trans sde)).trans beg)
        refine ⟨.list [x0, x1, x2], .lst (by rw [off_ne tlp]; exact beg _ _ tlp htle) (.cons a0 (.cons a1 (.cons a2 .nil))), s2_lst (fun x hx => ?_) (by show 3 ≤ 4; decide)⟩
        simp only [List.mem_cons, List.not_mem_nil, or_false] at hx
        rcases hx with rfl | rfl | rfl
        · exact c0
        · exact c1
        · exact c2
      · exact ((d2.s2 (by decide)).but (But.of se)).but beg
      · exact (e9.s2 (by decide)).but beg
    have b3g : But p H3 Hg := (b36.trans (But.of (s7.trans sde))).trans beg
    have Rg := R3.but b3g
    refine ⟨_, rfl, _, rfl, _, rfl, S2, 12, Cg.some, Rg.rowX, fun v1 Hh sh d1 => ?_⟩
    have Ch := Cg.same sh (Nat.le_refl _)
    refine ⟨_, rfl, (by show 1 ≤ sizeLine; decide), fun c3 Hi si hc3 => ?_⟩
    have Ci := Ch.same si (Nat.le_refl _)
    refine ⟨S2, 12, 1, Ci.some, d1.but (But.of si), DX.one' Ci hc3 (hv.but (But.of (sh.trans si))), by decide, fun v4 Hj sj d4 => ?_⟩
    have Cj := Ci.same sj (Nat.le_refl _)
    refine ⟨_, rfl, _, rfl, _, _, rfl, rfl, _, rfl, S2, 12, Cj.some, (Rg.same ((sh.trans si).trans sj)).rowX, fun v5 Hk sk d5 => ?_⟩
    have Ck := Cj.same sk (Nat.le_refl _)
    refine ⟨S2, 13, 12, Ck.some, d4.but (But.of sk), d5, by decide, fun v6 Hl sl d6 => ?_⟩
    exact k _ _ (((b02.trans b3).trans b3g).trans (But.of ((((sh.trans si).trans sj).trans sk).trans sl))) (Ck.same sl (by omega)) (d6.sr (by decide))
end
end My

set_option linter.all false
namespace My
open PySem PySem.Spec PyProof.Rows L2
/-! ### a total by lowest terms comes to one iff the shares in parts do -/
def addLow (t s : Int × Int) : Int × Int := ((t.1 * s.2 + s.1 * t.2) / gL (t.1 * s.2 + s.1 * t.2) (t.2 * s.2), (t.2 * s.2) / gL (t.1 * s.2 + s.1 * t.2) (t.2 * s.2))
def totL (l : List (Int × Int)) : Int × Int := l.foldl addLow (0, 1)
theorem gL_pos {a b : Int} (h : 0 < b) : 0 < gL a b := by
  unfold gL
  have : 0 < Nat.gcd b.natAbs a.natAbs := Nat.gcd_pos_of_pos_left _ (by omega)
  omega
theorem gL_dvd1 (a b : Int) : gL a b ∣ a := by
  unfold gL
  exact Int.ofNat_dvd_left.mpr (Nat.gcd_dvd_right _ _)
theorem gL_dvd2 (a b : Int) : gL a b ∣ b := by
  unfold gL
  exact Int.ofNat_dvd_left.mpr (Nat.gcd_dvd_left _ _)
theorem gL_self {b : Int} (h : 0 < b) : gL b b = b := by
  unfold gL
  rw [Nat.gcd_self]; omega
structure TotI (L A B : Int) (t : Int × Int) : Prop where
  pos : 0 < t.2
  le : t.2 ≤ B
  eq : t.1 * L = A * t.2
  one : t.1 = t.2 → t = (1, 1)
theorem TotI.init (L : Int) : TotI L 0 1 (0, 1) := ⟨by decide, by decide, by rw [Int.zero_mul, Int.zero_mul], fun h => absurd h (by decide)⟩
theorem TotI.step {L A B : Int} {t s : Int × Int} (T : TotI L A B t) (h2 : 0 < s.2) (h3 : s.2 ≤ 100) (hd : s.2 ∣ L) : TotI L (A + s.1 * (L / s.2)) (B * 100) (addLow t s) := by
  obtain ⟨q, rfl⟩ := hd
  rw [Int.mul_ediv_cancel_left _ (Int.ne_of_gt h2)]
  have b0 : 0 < t.2 * s.2 := Int.mul_pos T.pos h2
  generalize hb : t.2 * s.2 = b at b0
  generalize ha : t.1 * s.2 + s.1 * t.2 = a
  have g0 := gL_pos (a := a) b0
  obtain ⟨a', ea⟩ := gL_dvd1 a b
  obtain ⟨b', eb⟩ := gL_dvd2 a b
  have e1 : addLow t s = (a', b') := by
    unfold addLow
    rw [ha, hb]
    refine Prod.ext ?_ ?_
    · show a / gL a b = a'
      conv => lhs; lhs; rw [ea]
      exact Int.mul_ediv_cancel_left _ (Int.ne_of_gt g0)
    · show b / gL a b = b'
      conv => lhs; lhs; rw [eb]
      exact Int.mul_ediv_cancel_left _ (Int.ne_of_gt g0)
  rw [e1]
  have bp : 0 < b' := by
    rcases Int.lt_trichotomy b' 0 with c | c | c
    · have := Int.mul_neg_of_pos_of_neg g0 c
      omega
    · rw [c, Int.mul_zero] at eb; omega
    · exact c
  refine ⟨bp, ?_, ?_, fun h => ?_⟩
  · have h4 : b' ≤ b := by
      have : 1 * b' ≤ gL a b * b' := Int.mul_le_mul_of_nonneg_right (by omega) (by omega)
      omega
    have h5 : t.2 * s.2 ≤ B * 100 := Int.mul_le_mul T.le h3 (by omega) (by have := T.pos; have := T.le; omega)
    show b' ≤ B * 100
    omega
  · show a' * (s.2 * q) = (A + s.1 * q) * b'
    refine Int.eq_of_mul_eq_mul_left (Int.ne_of_gt g0) ?_
    have h6 : gL a b * (a' * (s.2 * q)) = a * (s.2 * q) := by
      conv => rhs; rw [ea]
      rw [Int.mul_assoc]
    have h7 : gL a b * ((A + s.1 * q) * b') = (A + s.1 * q) * b := by
      conv => rhs; rw [eb]
      rw [Int.mul_left_comm]
    rw [h6, h7, ← ha, ← hb]
    have e := T.eq
    have h8 : t.1 * s.2 * (s.2 * q) = s.2 * (t.1 * (s.2 * q)) := by rw [Int.mul_comm t.1 s.2, Int.mul_assoc]
    have h9 : s.1 * t.2 * (s.2 * q) = s.1 * q * (t.2 * s.2) := by
      rw [Int.mul_assoc, Int.mul_assoc, Int.mul_left_comm t.2 s.2 q, Int.mul_comm q (t.2 * s.2), Int.mul_comm t.2 s.2, Int.mul_assoc]
    rw [Int.add_mul, Int.add_mul, h8, e, h9]
    congr 1
    rw [Int.mul_left_comm, Int.mul_comm t.2 s.2]
  · have h0 : a' = b' := h
    have hab : a = b := by
      have h10 : gL a b * a' = gL a b * b' := by rw [h0]
      exact ea.trans (h10.trans eb.symm)
    subst hab
    rw [gL_self b0] at eb
    have h1 : b' = 1 := by
      have h11 : a * 1 = a * b' := by omega
      exact (Int.eq_of_mul_eq_mul_left (Int.ne_of_gt b0) h11).symm
    rw [h0, h1]
theorem TotI.fold {L : Int} : ∀ {l : List (Int × Int)} {A B : Int} {t : Int × Int}, TotI L A B t → (∀ s ∈ l, 0 < s.2 ∧ s.2 ≤ 100 ∧ s.2 ∣ L) → TotI L (A + (l.map fun s => s.1 * (L / s.2)).sum) (B * 100 ^ l.length) (l.foldl addLow t)
  | [], A, B, t, T, _ => by simpa using T
  | s :: l, A, B, t, T, h => by
    obtain ⟨h1, h2, h3⟩ := h s List.mem_cons_self
    have := TotI.fold (T.step h1 h2 h3) fun y hy => h y (List.mem_cons_of_mem _ hy)
    rw [List.map_cons, List.sum_cons, List.length_cons, Int.pow_succ, ← Int.add_assoc, Int.mul_comm (100 ^ l.length) 100, ← Int.mul_assoc]
    exact this
theorem tot_one {l : List (Int × Int)} (h : ∀ s ∈ l, 0 < s.2 ∧ s.2 ≤ 100) (hd : ∀ s ∈ l, s.2 ∣ ((lcmS l : Nat) : Int)) (hL : 0 < lcmS l) : decide (totL l = (1, 1)) = sumOk l := by
  have T := (TotI.init ((lcmS l : Nat) : Int)).fold fun s hs => ⟨(h s hs).1, (h s hs).2, hd s hs⟩
  rw [Int.zero_add] at T
  unfold sumOk
  refine decide_eq_decide.mpr ⟨fun e => ?_, fun e => ?_⟩
  · have := T.eq
    have e' : l.foldl addLow (0, 1) = (1, 1) := e
    rw [e'] at this
    simpa using this.symm
  · refine T.one ?_
    have q := T.eq
    rw [e, Int.mul_comm] at q
    exact Int.eq_of_mul_eq_mul_left (by omega) q
theorem lcm_acc : ∀ (l : List (Int × Int)) (a : Nat), 0 < a → (∀ s ∈ l, 0 < s.2) → 0 < l.foldl (fun a s => Nat.lcm a s.2.natAbs) a ∧ a ∣ l.foldl (fun a s => Nat.lcm a s.2.natAbs) a ∧ ∀ s ∈ l, s.2.natAbs ∣ l.foldl (fun a s => Nat.lcm a s.2.natAbs) a
  | [], a, h, _ => ⟨h, Nat.dvd_refl a, fun _ h => nomatch h⟩
  | s :: l, a, h, k => by
    have hs := k s List.mem_cons_self
    have p : 0 < Nat.lcm a s.2.natAbs := Nat.lcm_pos h (by omega)
    obtain ⟨i1, i2, i3⟩ := lcm_acc l (Nat.lcm a s.2.natAbs) p fun y hy => k y (List.mem_cons_of_mem _ hy)
    refine ⟨i1, Nat.dvd_trans (Nat.dvd_lcm_left a s.2.natAbs) i2, fun y hy => ?_⟩
    rcases List.mem_cons.mp hy with rfl | hy
    · exact Nat.dvd_trans (Nat.dvd_lcm_right a _) i2
    · exact i3 y hy
theorem tot_sum {l : List (Int × Int)} (h : ∀ s ∈ l, 0 < s.2 ∧ s.2 ≤ 100) : decide (totL l = (1, 1)) = sumOk l := by
  obtain ⟨h1, _, h3⟩ := lcm_acc l 1 (by decide) fun s hs => (h s hs).1
  exact tot_one h (fun s hs => Int.natAbs_dvd.mp (Int.ofNat_dvd.mpr (h3 s hs))) h1
end My

set_option linter.all false
namespace My
open PySem PySem.Spec PyProof.Rows L2
/-! ### sets of nested keys: the small questions -/
section
variable {P : Program} {w : World} {A : Around} {E : Value → Shared → Prop}
theorem cls_none (n : Nat) : ofAClassStatement n .none = pure false := by cases n <;> rfl
theorem cls_bool (n : Nat) (b : Bool) : ofAClassStatement n (.bool b) = pure false := by cases n <;> rfl
theorem cls_int (n : Nat) (i : Int) (t : Tok) : ofAClassStatement n (.int i t) = pure false := by cases n <;> rfl
theorem cls_str (n : Nat) (x : Str) (t : Tok) : ofAClassStatement n (.str x t) = pure false := by cases n <;> rfl
theorem by_none (n : Nat) : hashByValue n .none = pure true := by cases n <;> rfl
theorem by_bool (n : Nat) (b : Bool) : hashByValue n (.bool b) = pure true := by cases n <;> rfl
theorem by_int (n : Nat) (i : Int) (t : Tok) : hashByValue n (.int i t) = pure true := by cases n <;> rfl
theorem by_str (n : Nat) (x : Str) (t : Tok) : hashByValue n (.str x t) = pure false := by cases n <;> rfl
mutual
/-- a key is of no class statement -/
theorem cls_key : ∀ (k : NestedKey) (v : Value) (n : Nat) (s : Shared), NestedIs s.heap k v → k.depth ≤ n → ∀ Q : Bool → Shared → Prop, Q false s → wpAny (model P w) A (ofAClassStatement n v) Q E s
  | .none, _, n, s, x, _, Q, h => by cases x; rw [cls_none]; exact wpAny_pure h
  | .num i, _, n, s, x, _, Q, h => by
    cases x with
    | bool _ => rw [cls_bool]; exact wpAny_pure h
    | int _ _ => rw [cls_int]; exact wpAny_pure h
  | .text y, _, n, s, x, _, Q, h => by cases x; rw [cls_str]; exact wpAny_pure h
  | .tup ks, _, n, s, x, hn, Q, h => by
    cases x with
    | @tup a o vs m _ hg hc hd hk =>
      simp only [NestedKey.depth] at hn
      cases n with
      | zero => omega
      | succ n =>
        have all := cls_keys ks vs.toList n s hk (by omega)
        unfold ofAClassStatement
        refine wpAny_bind (wpAny_typeOf (T := "tuple") ⟨o, hg, hc⟩ ?_)
        dsimp only
        have e : (("tuple" : String) == "tuple") = true := by decide
        simp only [e, if_true]
        refine wpAny_bind (wpAny_pure ?_)
        simp only [Bool.not_true, Bool.false_eq_true, if_false]
        refine wpAny_bind (wpAny_seqItems hg hd ?_)
        dsimp only
        refine wpAny_bind ?_
        rw [← Array.forIn_toList]
        refine wpAny_forIn_list _ (fun rest r s' => r.1 = Option.none ∧ s' = s ∧ ∀ v ∈ rest, ∀ Q : Bool → Shared → Prop, Q false s → wpAny (model P w) A (ofAClassStatement n v) Q E s) _ ?_ ?_ _ _ ⟨rfl, rfl, all⟩
        · rintro v rest r s' ⟨hr, rfl, hall⟩
          refine wpAny_bind (hall v List.mem_cons_self _ ?_)
          simp only [Bool.false_eq_true, if_false]
          exact wpAny_pure ⟨rfl, rfl, fun u hu => hall u (List.mem_cons_of_mem _ hu)⟩
        · rintro ⟨r1, r2⟩ s' ⟨hr, rfl, _⟩
          simp only at hr
          subst hr
          exact wpAny_pure h
theorem cls_keys : ∀ (ks : List NestedKey) (vs : List Value) (n : Nat) (s : Shared), NestedAll s.heap ks vs → NestedKey.depthAll ks ≤ n → ∀ v ∈ vs, ∀ Q : Bool → Shared → Prop, Q false s → wpAny (model P w) A (ofAClassStatement n v) Q E s
  | [], _, n, s, x, _, v, hv, Q, h => by cases x; cases hv
  | k :: ks, _, n, s, x, hn, v, hv, Q, h => by
    cases x with
    | cons x1 x2 =>
      simp only [NestedKey.depthAll] at hn
      rcases List.mem_cons.mp hv with e | hv
      · rw [e]; exact cls_key k _ n s x1 (by omega) Q h
      · exact cls_keys ks _ n s x2 (by omega) v hv Q h
end
mutual
/-- whether a key's hash is by value: one or the other, nothing happens -/
theorem by_key : ∀ (k : NestedKey) (v : Value) (n : Nat) (s : Shared), NestedIs s.heap k v → ∀ Q : Bool → Shared → Prop, (∀ b, Q b s) → wpAny (model P w) A (hashByValue n v) Q E s
  | .none, _, n, s, x, Q, h => by cases x; rw [by_none]; exact wpAny_pure (h _)
  | .num i, _, n, s, x, Q, h => by
    cases x with
    | bool _ => rw [by_bool]; exact wpAny_pure (h _)
    | int _ _ => rw [by_int]; exact wpAny_pure (h _)
  | .text y, _, n, s, x, Q, h => by cases x; rw [by_str]; exact wpAny_pure (h _)
  | .tup ks, _, n, s, x, Q, h => by
    cases x with
    | @tup a o vs m _ hg hc hd hk =>
      cases n with
      | zero => exact wpAny_pure (h _)
      | succ n =>
        have all := by_keys ks vs.toList n s hk
        unfold hashByValue
        refine wpAny_bind (wpAny_specialOf (T := "tuple") ⟨o, hg, hc⟩ F.slot_tuple_hash.lookup ?_)
        refine wpAny_bind (wpAny_seqItems hg hd ?_)
        refine wpAny_bind ?_
        show wpAny _ _ (forIn vs _ _) _ _ s
        rw [← Array.forIn_toList]
        refine wpAny_forIn_list _ (fun rest r s' => (r.1 = Option.none ∨ ∃ b, r.1 = Option.some b) ∧ s' = s ∧ ∀ v ∈ rest, ∀ Q : Bool → Shared → Prop, (∀ b, Q b s) → wpAny (model P w) A (hashByValue n v) Q E s) _ ?_ ?_ _ _ ⟨.inl rfl, rfl, all⟩
        · rintro v rest r s' ⟨hr, rfl, hall⟩
          refine wpAny_bind (hall v List.mem_cons_self _ fun b => ?_)
          cases b
          · simp only [Bool.not_false, if_true]
            exact wpAny_pure (wpAny_pure (h _))
          · simp only [Bool.not_true, Bool.false_eq_true, if_false]
            exact wpAny_pure ⟨.inl rfl, rfl, fun u hu => hall u (List.mem_cons_of_mem _ hu)⟩
        · rintro ⟨r1, r2⟩ s' ⟨hr, rfl, _⟩
          simp only at hr
          rcases hr with hr | ⟨b, hr⟩
          · subst hr
            exact wpAny_pure (h _)
          · subst hr
            exact wpAny_pure (h _)
theorem by_keys : ∀ (ks : List NestedKey) (vs : List Value) (n : Nat) (s : Shared), NestedAll s.heap ks vs → ∀ v ∈ vs, ∀ Q : Bool → Shared → Prop, (∀ b, Q b s) → wpAny (model P w) A (hashByValue n v) Q E s
  | [], _, n, s, x, v, hv, Q, h => by cases x; cases hv
  | k :: ks, _, n, s, x, v, hv, Q, h => by
    cases x with
    | cons x1 x2 =>
      rcases List.mem_cons.mp hv with e | hv
      · rw [e]; exact by_key k _ n s x1 Q h
      · exact by_keys ks _ n s x2 v hv Q h
end
/-- the tuple at a is the key k, not too deep -/
abbrev IsN (P : Program) (w : World) (h : Heap) (k : NestedKey) (a : Addr) : Prop := (nestedKind P w).is h k a
theorem quiet_n {s : Shared} {k : NestedKey} {b : Addr} {Q : Bool → Shared → Prop} (x : IsN P w s.heap k b) (h : Q true s) : wpAny (model P w) A (eqIsQuiet 8 (.ref b)) Q E s := quiet_key k _ 8 s x.1 x.2 A E Q h
/-- a search among such keys shows nothing -/
theorem seen_n {s : Shared} {k : NestedKey} {b : Addr} (x : IsN P w s.heap k b) {ys : List Value} (hy : ∀ y ∈ ys, ∃ k' c, y = Value.ref c ∧ IsN P w s.heap k' c) {Q : Bool → Shared → Prop} (h : Q false s) :
    wpAny (model P w) A (searchCouldBeSeen (.ref b) ys) Q E s := by
  unfold searchCouldBeSeen
  refine wpAny_bind (wpAny_forIn_list _ (fun rest r s' => (r.1 = Option.none ∧ s' = s) ∧ ∀ y ∈ rest, ∃ k' c, y = Value.ref c ∧ IsN P w s.heap k' c) _ ?_ ?_ _ _ ⟨⟨rfl, rfl⟩, hy⟩)
  · rintro v rest r s' ⟨⟨_, rfl⟩, all⟩
    obtain ⟨k2, c, rfl, y⟩ := all v List.mem_cons_self
    have tl : ∀ u ∈ rest, ∃ k' c, u = Value.ref c ∧ IsN P w s'.heap k' c := fun u hu => all u (List.mem_cons_of_mem _ hu)
    dsimp only
    by_cases e : (b == c || (carriedByValue (.ref b) && carriedByValue (.ref c))) = true
    · exact wp_if_pos e (wpAny_pure ⟨⟨rfl, rfl⟩, tl⟩)
    · refine wp_if_neg e ?_
      refine wpAny_bind (quiet_n x ?_)
      simp only [Bool.not_true, Bool.false_eq_true, if_false]
      refine wpAny_bind (quiet_n y ?_)
      simp only [Bool.not_true, Bool.false_eq_true, if_false]
      refine wpAny_bind (cls_key k _ 8 _ x.1 x.2 _ ?_)
      simp only [Bool.false_eq_true, if_false]
      refine wpAny_bind (cls_key k2 _ 8 _ y.1 y.2 _ ?_)
      simp only [Bool.false_eq_true, if_false]
      exact wpAny_pure ⟨⟨rfl, rfl⟩, tl⟩
  · rintro ⟨r1, r2⟩ s' ⟨⟨hr, rfl⟩, _⟩
    obtain rfl : r1 = Option.none := hr
    exact wpAny_pure h
end
end My

set_option linter.all false
namespace My
open PySem PySem.Spec PyProof.Rows L2
/-! ### sets of nested keys: the search -/
/-- the search's state after c steps -/
def stp (t : SetTable) (h : Int) (c : Nat) : SetTable.Probe := nth t.mask (runAt t.mask (SetTable.bits h % (t.mask + 1)) (SetTable.bits h)) c
theorem stp_from (t : SetTable) (h : Int) (c q : Nat) : nth t.mask (stp t h c) q = stp t h (c + q) := (nth_add t.mask c _ q).symm
theorem adv_keeps (m : Nat) : ∀ (n : Nat) (p : SetTable.Probe), p.dummy = none → (nth m p n).dummy = none
  | 0, _, h => h
  | n + 1, p, h => adv_keeps m n (adv m p) (by unfold adv; split <;> exact h)
theorem stp_clean (t : SetTable) (h : Int) (c : Nat) : (stp t h c).dummy = none := adv_keeps t.mask c _ rfl
theorem probe_from {t : SetTable} {hs : List Int} (T : TabOk t hs) {hashAt : Nat → Int} (hA : ∀ (i : Nat) (x : Int), hs[i]? = some x → hashAt i = x) (h : Int) {K c : Nat} (cK : c ≤ K) (Kf : K < 10 * SetTable.turns t.mask)
    (out : way t.mask h K ∉ t.place.toList) (ins : ∀ d, d < K → way t.mask h d ∈ t.place.toList) :
    (∃ d i : Nat, c ≤ d ∧ d < K ∧ t.place.toList[i]? = some (way t.mask h d) ∧ hs[i]? = some h ∧ (∀ d' i' : Nat, c ≤ d' → d' < d → t.place.toList[i']? = some (way t.mask h d') → hs[i']? ≠ some h) ∧ t.probe hashAt h (stp t h c) = some (.candidate (way t.mask h d) i (stp t h (d + 1)))) ∨
    ((∀ d' i' : Nat, c ≤ d' → d' < K → t.place.toList[i']? = some (way t.mask h d') → hs[i']? ≠ some h) ∧ t.probe hashAt h (stp t h c) = some (.empty (way t.mask h K) none)) := by
  have j : ∀ q, (nth t.mask (stp t h c) q).j = way t.mask h (c + q) := fun q => congrArg SetTable.Probe.j (stp_from t h c q)
  have back : ∀ (i d : Nat), t.place.toList[i]? = some (way t.mask h d) → ∃ x, hs[i]? = some x := fun i d g => by
    have h1 : i < t.place.toList.length := (List.getElem?_eq_some_iff.mp g).1
    have h2 := T.sz
    rw [Array.length_toList, h2] at h1
    exact ⟨_, List.getElem?_eq_getElem h1⟩
  rcases go_spec t T.ris T.dm hashAt h (10 * SetTable.turns t.mask) (K - c) (stp t h c) (stp_clean t h c) (by omega) (fun q hq => by rw [j]; exact ins _ (by omega)) (by rw [j, show c + (K - c) = K by omega]; exact out) with ⟨q, i, q1, q2, q3, q4, q5⟩ | ⟨q4, q5⟩
  · rw [j] at q2
    obtain ⟨x, hx⟩ := back i _ q2
    refine .inl ⟨c + q, i, by omega, by omega, q2, ?_, fun d' i' d1 d2 g z => ?_, ?_⟩
    · rw [hx, ← hA i x hx, q3]
    · exact q4 (d' - c) i' (by omega) (by rw [j, show c + (d' - c) = d' by omega]; exact g) (hA i' h z)
    · rw [j, stp_from] at q5
      exact q5
  · refine .inr ⟨fun d' i' d1 d2 g z => ?_, ?_⟩
    · exact q4 (d' - c) i' (by omega) (by rw [j, show c + (d' - c) = d' by omega]; exact g) (hA i' h z)
    · rw [j, show c + (K - c) = K by omega] at q5
      exact q5
/-- a set whose elements are such keys -/
structure SetN (P : Program) (w : World) (h : Heap) (a : Addr) (L : List (Addr × NestedKey)) (es : Array (Int × Value)) (ep : Nat) (t : SetTable) : Prop where
  ob : ∃ o, h.get? a = some o ∧ o.ExactSet ∧ o.data = .set es ep t
  rows : es.toList = L.map fun p => (p.2.hash w, Value.ref p.1)
  tab : TabOk t (L.map fun p => p.2.hash w)
  nd : (L.map (·.2)).Nodup
  key : ∀ p ∈ L, IsN P w h p.2 p.1
  led : w.params.followText "set-order" = true ∨ t.led = true
  room : L.length * 5 < t.mask * 3
  few : L.length < 64
section
variable {P : Program} {w : World} {A : Around} {E : Value → Shared → Prop} {s : Shared} {a : Addr} {L : List (Addr × NestedKey)} {es : Array (Int × Value)} {ep : Nat} {t : SetTable}
theorem SetN.num (R : SetN P w s.heap a L es ep t) : es.size = L.length := by
  rw [← Array.length_toList, R.rows, List.length_map]
theorem SetN.fit (R : SetN P w s.heap a L es ep t) : t.fits es.size = true := by
  have h1 := R.tab.sz
  have h2 := R.num
  have h3 := R.room
  rw [List.length_map] at h1
  unfold SetTable.fits SetTable.fill
  rw [R.tab.dm, Bool.and_eq_true, beq_iff_eq, decide_eq_true_eq]
  show t.place.size = es.size ∧ t.place.size + 0 ≤ t.mask
  omega
theorem SetN.ent (R : SetN P w s.heap a L es ep t) {i : Nat} {p : Addr × NestedKey} (h : L[i]? = some p) : es[i]? = some (p.2.hash w, Value.ref p.1) := by
  rw [← Array.getElem?_toList, R.rows, List.getElem?_map, h]
  rfl
theorem SetN.gave (R : SetN P w s.heap a L es ep t) : ¬ t.gaveWay = true := by
  unfold SetTable.gaveWay
  rw [mask_odd R.tab.mok]
  decide
theorem hash_at (R : SetN P w s.heap a L es ep t) : ∀ (i : Nat) (x : Int), (L.map fun p => p.2.hash w)[i]? = some x → (fun i => (es[i]?.map (·.1)).getD 0) i = x := fun i x h => by
  rw [List.getElem?_map] at h
  obtain ⟨p, hp, rfl⟩ := Option.map_eq_some_iff.mp h
  show (es[i]?.map (·.1)).getD 0 = _
  rw [R.ent hp]
  rfl
/-- from the c-th step on: it is there, or the first empty slot is told -/
theorem srch (R : SetN P w s.heap a L es ep t) {x : Addr} {k : NestedKey} (hx : IsN P w s.heap k x) (hu : (nestedKind P w).room A) {K : Nat} (Kf : K < 10 * SetTable.turns t.mask)
    (out : way t.mask (k.hash w) K ∉ t.place.toList) (ins : ∀ d, d < K → way t.mask (k.hash w) d ∈ t.place.toList) {Q : SetFound → Shared → Prop}
    (yes : k ∈ L.map (·.2) → Q (.there none) s) (no : k ∉ L.map (·.2) → Q (.free (way t.mask (k.hash w) K) false) s) :
    ∀ (n c f : Nat) (stand : Option SetTable.Probe), K - c < n → n ≤ f → stand.getD (t.probeStart (k.hash w)) = stp t (k.hash w) c → c ≤ K →
      (∀ (i : Nat) p, L[i]? = some p → p.2 = k → ∃ d, c ≤ d ∧ d < K ∧ t.place.toList[i]? = some (way t.mask (k.hash w) d)) →
      wpAny (model P w) A (setSearchFrom a (.ref x) (k.hash w) true f stand) Q E s := by
  obtain ⟨o, ho, hex, hd⟩ := R.ob
  intro n
  induction n with
  | zero => intro c f stand h; exact absurd h (Nat.not_lt_zero _)
  | succ n ih =>
    intro c f stand hn hf hst cK lie
    obtain ⟨f, rfl⟩ : ∃ g, f = g + 1 := ⟨f - 1, by omega⟩
    rw [setSearchFrom_succ]
    refine wpAny_bind (wpAny_setState_of ho hd R.fit ?_)
    dsimp only
    refine wp_if_neg R.gave ?_
    rw [hst]
    rcases probe_from R.tab (hash_at R) (k.hash w) cK Kf out ins with ⟨d, i, d1, d2, hi, hh, pass, e⟩ | ⟨pass, e⟩
    · rw [e]
      dsimp only
      rw [List.getElem?_map] at hh
      obtain ⟨p, hp, hpk⟩ := Option.map_eq_some_iff.mp hh
      have pin : p ∈ L := List.mem_of_getElem? hp
      have live : t.slot (way t.mask (k.hash w) d) = .live i := slot_live R.tab.ris hi
      have rest : wpAny (model P w) A (searchRest a (.ref x) (k.hash w) true f es t (way t.mask (k.hash w) d) i (stp t (k.hash w) (d + 1))) Q E s := by
        unfold searchRest
        rw [R.ent hp]
        dsimp only
        refine wpAny_bind (wpAny_holding ((nestedKind P w).eqBool hu (R.key p pin) hx ?_))
        refine wpAny_bind (wpAny_setState_of ho hd R.fit ?_)
        dsimp only
        by_cases same : p.2 = k
        · exact wp_if_pos (by simp [same]) (wpAny_pure (yes (List.mem_map.mpr ⟨p, pin, same⟩)))
        · refine wp_if_neg (by simp [same]) ?_
          rw [sameMem]
          dsimp only
          simp only [if_true, live, R.ent hp]
          refine wpAny_bind (wpAny_isSame_ref_self (wpAny_bind (wpAny_pure ?_)))
          simp only [if_true]
          refine wp_if_neg (by simp [same]) ?_
          refine ih (d + 1) f _ (by omega) (by omega) rfl (by omega) fun i0 p0 h0 k0 => ?_
          obtain ⟨d0, l1, l2, l3⟩ := lie i0 p0 h0 k0
          refine ⟨d0, ?_, l2, l3⟩
          have hh0 : (L.map fun p => p.2.hash w)[i0]? = some (k.hash w) := by rw [List.getElem?_map, h0, ← k0]; rfl
          rcases Nat.lt_trichotomy d0 d with z | z | z
          · exact absurd hh0 (pass d0 i0 l1 z l3)
          · exfalso
            rw [z] at l3
            have := slot_live R.tab.ris l3
            rw [live] at this
            injection this with this
            rw [← this, hp] at h0
            injection h0 with h0
            exact same (by rw [h0]; exact k0)
          · omega
      by_cases hl : t.led = true
      · exact wp_if_neg (by simp [hl]) rest
      · refine wp_if_pos (by simp [hl]) (wpAny_bind (seen_n hx (fun y hy => ?_) (wp_if_neg (by decide) rest)))
        obtain ⟨z, hz, rfl⟩ := List.mem_map.mp hy
        have hz1 : z ∈ es.toList := by
          have := (Array.mem_filter.mp (Array.mem_toList_iff.mp hz)).1
          exact Array.mem_toList_iff.mpr this
        rw [R.rows] at hz1
        obtain ⟨q, hq, rfl⟩ := List.mem_map.mp hz1
        exact ⟨q.2, q.1, rfl, R.key q hq⟩
    · rw [e]
      dsimp only
      refine wpAny_pure (no fun hm => ?_)
      obtain ⟨p, pin, pk⟩ := List.mem_map.mp hm
      obtain ⟨i, hi, ep⟩ := List.mem_iff_getElem.mp pin
      have hp : L[i]? = some p := by rw [List.getElem?_eq_getElem hi, ep]
      obtain ⟨d, l1, l2, l3⟩ := lie i p hp pk
      exact pass d i l1 l2 l3 (by rw [List.getElem?_map, hp, ← pk]; rfl)
/-- the search as an add asks for it -/
theorem srch_add (R : SetN P w s.heap a L es ep t) {x : Addr} {k : NestedKey} (hx : IsN P w s.heap k x) (hu : (nestedKind P w).room A) {Q : SetFound → Shared → Prop} (yes : k ∈ L.map (·.2) → Q (.there none) s)
    (no : ∀ K, k ∉ L.map (·.2) → way t.mask (k.hash w) K ∉ t.place.toList → (∀ d, d < K → way t.mask (k.hash w) d ∈ t.place.toList) → Q (.free (way t.mask (k.hash w) K) false) s) :
    wpAny (model P w) A (setSearch a (.ref x) (k.hash w) true) Q E s := by
  have room := R.room
  obtain ⟨K, Kf, out, ins⟩ := R.tab.first (by rw [List.length_map]; omega) (k.hash w)
  have small : 10 * SetTable.turns t.mask < 100000 := by
    rcases R.tab.mok with e | e | e <;> rw [e] <;> decide
  unfold setSearch
  refine srch R hx hu Kf out ins yes (fun h => no K h out ins) (K + 1) 0 100000 none (by omega) (by omega) rfl (Nat.zero_le _) fun i p hp pk => ?_
  have hh : (L.map fun p => p.2.hash w)[i]? = some (k.hash w) := by rw [List.getElem?_map, hp, ← pk]; rfl
  have hl : i < t.place.toList.length := by
    have h1 := (List.getElem?_eq_some_iff.mp hp).1
    have h2 := R.tab.sz
    rw [List.length_map] at h2
    rw [Array.length_toList]; omega
  have g := List.getElem?_eq_getElem hl
  obtain ⟨d, hd, e⟩ := R.tab.before out hh g
  exact ⟨d, Nat.zero_le _, hd, by rw [g, e]⟩
end
end My

set_option linter.all false
namespace My
open PySem PySem.Spec PyProof.Rows L2
/-! ### sets of nested keys: laid anew -/
theorem all_at {α : Type} : ∀ L : List α, (List.range L.length).filterMap (fun i => L[i]?) = L
  | [] => rfl
  | x :: L => by
    rw [List.length_cons, List.range_succ_eq_map]
    show x :: ((List.range L.length).map Nat.succ).filterMap (fun i => (x :: L)[i]?) = x :: L
    rw [List.filterMap_map]
    congr 1
    exact all_at L
theorem order_of {α : Type} (L : List α) (f : α → Int × Value) (es : Array (Int × Value)) (order : Array Nat) (hr : es.toList = L.map f) (hp : order.toList.Perm (List.range L.length)) :
    ∃ L2 : List α, (order.filterMap (es[·]?)).toList = L2.map f ∧ L2.Perm L ∧ (L2.map fun p => (f p).1) = order.toList.map fun i => (es.map (·.1)).getD i 0 := by
  have at_ : ∀ i : Nat, es[i]? = (L[i]?).map f := fun i => by rw [← Array.getElem?_toList, hr, List.getElem?_map]
  refine ⟨order.toList.filterMap fun i => L[i]?, ?_, ?_, ?_⟩
  · rw [Array.toList_filterMap, List.map_filterMap]
    congr 1
    funext i
    exact at_ i
  · have := hp.filterMap fun i => L[i]?
    rwa [all_at] at this
  · have lt : ∀ i ∈ order.toList, i < L.length := fun i h => List.mem_range.mp (hp.mem_iff.mp h)
    clear hp
    generalize order.toList = l at lt
    induction l with
    | nil => rfl
    | cons i l ih =>
      have hi := lt i List.mem_cons_self
      rw [List.filterMap_cons_some (List.getElem?_eq_getElem hi), List.map_cons, List.map_cons, ih fun j hj => lt j (List.mem_cons_of_mem _ hj)]
      congr 1
      have e : (es.map (·.1))[i]? = some (f L[i]).1 := by rw [Array.getElem?_map, at_, List.getElem?_eq_getElem hi]; rfl
      rw [Array.getD_eq_getD_getElem?, e]
      rfl
section
variable {P : Program} {w : World} {A : Around} {E : Value → Shared → Prop} {s : Shared} {a : Addr} {L : List (Addr × NestedKey)} {es : Array (Int × Value)} {ep : Nat} {t : SetTable}
theorem isN_same {h h' : Heap} {k : NestedKey} {b : Addr} {o : Obj} (x : IsN P w h k b) (ho : h.get? a = some o) (hd : o.data = .set es ep t) (sb : Heap.SameBut a h h') : IsN P w h' k b :=
  ⟨NestedIs.at (fun c oc vs n hc hs => by
    refine (sb.2 c fun e => ?_).trans hc
    subst e
    rw [ho] at hc
    cases hc
    rw [hd] at hs
    cases hs) _ _ x.1, x.2⟩
theorem relayN {o : Obj} (ho : s.heap.get? a = some o) (hex : o.ExactSet) (hd : o.data = .set es ep t) (rows : es.toList = L.map fun p => (p.2.hash w, Value.ref p.1)) (hsz : t.place.size = es.size) (hdm : t.dummies = #[]) (hfl : es.size ≤ t.mask)
    (nd : (L.map (·.2)).Nodup) (key : ∀ p ∈ L, IsN P w s.heap p.2 p.1) (ld : w.params.followText "set-order" = true ∨ t.led = true) (few : L.length < 64) {wanted M : Nat}
    (hw : SetTable.sizeAbove wanted - 1 = M) (hM : MaskOk M) (hw2 : SetTable.sizeAbove wanted ≤ 128) (hn : L.length * 5 < M * 3) {Q : Unit → Shared → Prop}
    (q : ∀ h' L' es' ep' t', Heap.SameBut a s.heap h' → SetN P w h' a L' es' ep' t' → L'.Perm L → Q () { s with heap := h' }) : wpAny (model P w) A (setRelay a wanted) Q E s := by
  have hsl : es.size = L.length := by rw [← Array.length_toList, rows, List.length_map]
  have hfits : t.fits es.size = true := by
    unfold SetTable.fits SetTable.fill
    rw [hdm, Bool.and_eq_true, beq_iff_eq, decide_eq_true_eq]
    show t.place.size = es.size ∧ t.place.size + 0 ≤ t.mask
    omega
  obtain ⟨t', order, e, hp, T, em, el, ep', ed⟩ := relaid_ok t (hs := es.map (·.1)) (wanted := wanted) hw hM (by rw [Array.size_map, hsl]; omega)
  rw [Array.size_map, hsl] at hp
  obtain ⟨L2, r1, r2, r3⟩ := order_of L _ es order rows hp
  rw [← r3] at T
  have hs2 : (order.filterMap (es[·]?)).size = es.size := by rw [← Array.length_toList, r1, List.length_map, r2.length_eq, hsl]
  rw [setRelay_eq]
  refine wpAny_bind (wpAny_setState_of ho hd hfits ?_)
  dsimp only
  refine wp_if_neg (by rw [sizeLine_eq]; omega) ?_
  rw [e]
  dsimp only
  refine wpAny_bind (wp_if_neg (by rw [hs2]; simp) (wpAny_pure ?_))
  dsimp only
  refine wpAny_storeSet_of ho hd ?_ (by rw [hs2, hsl, sizeLine_eq]; omega)
  have sb : Heap.SameBut a s.heap (s.heap.update a (Obj.putSet (order.filterMap (es[·]?)) t')) := Heap.SameBut.update ..
  exact q _ L2 _ (ep + 1) t' sb ⟨⟨_, store_at ho hd, ⟨hex.1, hex.2.1, hex.2.2⟩, rfl⟩, r1, T, (r2.map (·.2)).nodup_iff.mpr nd, fun p hp => isN_same (key p (r2.mem_iff.mp hp)) ho hd sb, by rw [el]; exact ld, by rw [r2.length_eq, em]; exact hn, by rw [r2.length_eq]; exact few⟩ r2
end
end My

set_option linter.all false
namespace My
open PySem PySem.Spec PyProof.Rows L2
/-! ### sets of nested keys: the add -/
section
variable {P : Program} {w : World} {A : Around} {E : Value → Shared → Prop} {s : Shared} {a : Addr} {L : List (Addr × NestedKey)} {es : Array (Int × Value)} {ep : Nat} {t : SetTable}
/-- a table's word stays without the mark of plainness -/
theorem tab_plain {t : SetTable} {hs : List Int} {b : Bool} (T : TabOk t hs) : TabOk { t with plain := b } hs := ⟨T.ris, T.dm, T.sz, T.mok, T.bd, T.reach⟩
/-- when it is put in: what is left to do, told of the table t1 with its new rows -/
theorem put_in {o : Obj} {t1 : SetTable} {es1 : Array (Int × Value)} {L1 : List (Addr × NestedKey)} {x : Addr} {k : NestedKey} (ho : s.heap.get? a = some o) (hex : o.ExactSet) (hd : o.data = .set es ep t)
    (pm : L1.Perm ((x, k) :: L)) (nd : (L1.map (·.2)).Nodup) (key : ∀ p ∈ L1, IsN P w s.heap p.2 p.1) (rows : es1.toList = L1.map fun p => (p.2.hash w, Value.ref p.1)) (T : TabOk t1 (L1.map fun p => p.2.hash w)) (ld : w.params.followText "set-order" = true ∨ t1.led = true)
    (mk : t1.mask = 7 ∧ L.length < 5 ∨ (t1.mask = 31 ∨ t1.mask = 127) ∧ L.length < 18) (sz : es.size = L.length) {Q : Bool → Shared → Prop}
    (q : ∀ h' L' es' ep' t', Heap.SameBut a s.heap h' → SetN P w h' a L' es' ep' t' → L'.Perm ((x, k) :: L) → Q true { s with heap := h' }) :
    wpAny (model P w) A (do
      storeSet a es1 t1
      if t1.tooFull then setRelay a (SetTable.grown (es.size + 1))
      return true) Q E s := by
  have hlen : L1.length = L.length + 1 := pm.length_eq
  have hes : es1.size = L.length + 1 := by rw [← Array.length_toList, rows, List.length_map, hlen]
  have hsz : t1.place.size = es1.size := by
    have h := T.sz
    rw [List.length_map, hlen] at h
    rw [h, hes]
  refine wpAny_bind (wpAny_storeSet_of ho hd ?_ (by rw [hes, sizeLine_eq]; omega))
  · have sb : Heap.SameBut a s.heap (s.heap.update a (Obj.putSet es1 t1)) := Heap.SameBut.update ..
    have ho1 := store_at (es' := es1) (t' := t1) ho hd
    generalize s.heap.update a (Obj.putSet es1 t1) = h1 at sb ho1 ⊢
    have key1 : ∀ p ∈ L1, IsN P w h1 p.2 p.1 := fun p hp => isN_same (key p hp) ho hd sb
    have full : t1.tooFull = true ↔ (L.length + 1) * 5 ≥ t1.mask * 3 := by
      unfold SetTable.tooFull SetTable.fill
      rw [decide_eq_true_eq, T.dm, hsz, hes]
      rfl
    by_cases hf : t1.tooFull = true
    · refine wp_if_pos hf (wpAny_bind ?_)
      have h4 : t1.mask = 7 ∧ L.length = 4 := by
        have := full.mp hf
        rcases mk with ⟨e, l⟩ | ⟨e, l⟩
        · rw [e] at this; exact ⟨e, by omega⟩
        · rcases e with e | e <;> (rw [e] at this; omega)
      rw [sz, h4.2]
      refine relayN (s := { s with heap := h1 }) (M := 31) ho1 ⟨hex.1, hex.2.1, hex.2.2⟩ rfl rows hsz T.dm (by rw [hes, h4.1, h4.2]; decide) nd key1 ld (by rw [hlen, h4.2]; decide) (by rw [size_20]) (.inr (.inl rfl)) (by rw [size_20]; decide) (by rw [hlen, h4.2]; decide) ?_
      intro h2 L2 es2 ep2 t2 sb2 R2 pm2
      exact wpAny_pure (q h2 L2 es2 ep2 t2 (sb.trans sb2) R2 (pm2.trans pm))
    · refine wp_if_neg hf ?_
      have nf : ¬ (L.length + 1) * 5 ≥ t1.mask * 3 := fun h => hf (full.mpr h)
      exact wpAny_pure (q h1 L1 es1 (ep + 1) t1 sb ⟨⟨_, ho1, ⟨hex.1, hex.2.1, hex.2.2⟩, rfl⟩, rows, T, nd, key1, ld, by rw [hlen]; omega, by rw [hlen]; rcases mk with ⟨_, l⟩ | ⟨_, l⟩ <;> omega⟩ pm)
/-- the add -/
theorem addN (R : SetN P w s.heap a L es ep t) {x : Addr} {k : NestedKey} (hx : IsN P w s.heap k x) (hu : (nestedKind P w).room A) (mk18 : L.length < 18) {Q : Bool → Shared → Prop}
    (q : ∀ b h' L' es' ep' t', Heap.SameBut a s.heap h' → SetN P w h' a L' es' ep' t' → (k ∈ L.map (·.2) → L' = L) → (k ∉ L.map (·.2) → L'.Perm ((x, k) :: L)) → Q b { s with heap := h' }) :
    wpAny (model P w) A (setAddHashed a (.ref x) (k.hash w)) Q E s := by
  obtain ⟨o, ho, hex, hd⟩ := R.ob
  have mk : t.mask = 7 ∧ L.length < 5 ∨ (t.mask = 31 ∨ t.mask = 127) ∧ L.length < 18 := by
    have := R.room
    rcases R.tab.mok with e | e | e
    · exact .inl ⟨e, by rw [e] at this; omega⟩
    · exact .inr ⟨.inl e, mk18⟩
    · exact .inr ⟨.inr e, mk18⟩
  unfold setAddHashed
  refine wpAny_holding ?_
  rw [show (100000 : Nat) = 99999 + 1 from rfl, setAddHashedIn_succ]
  refine wpAny_bind (wpAny_setState_of ho hd R.fit ?_)
  dsimp only
  refine wp_if_neg (by simp [byScan, Value.scannable]) ?_
  refine wpAny_bind (srch_add R hx hu (fun hm => ?_) fun K hm out ins => ?_)
  · dsimp only
    exact wpAny_pure (q false s.heap L es ep t (Heap.SameBut.refl a s.heap) R (fun _ => rfl) fun z => absurd hm z)
  · dsimp only
    refine wpAny_bind (wpAny_setState_of ho hd R.fit ?_)
    dsimp only
    obtain ⟨q1, q2, q3, q4, q5, q6, q7, q8, q9⟩ := R.tab.put out ins
    have rows1 : (SetTable.insertAt es (SetTable.below t.place (way t.mask (k.hash w) K)) (k.hash w, Value.ref x)).toList = (L.take (SetTable.below t.place (way t.mask (k.hash w) K)) ++ (x, k) :: L.drop (SetTable.below t.place (way t.mask (k.hash w) K))).map fun p => (p.2.hash w, Value.ref p.1) := by
      rw [SetTable.toList_insertAt, R.rows, List.map_append, List.map_cons, List.map_take, List.map_drop]
    rw [← List.map_take, ← List.map_drop] at q3
    have q3' : TabOk (t.put (way t.mask (k.hash w) K)).1 ((L.take (SetTable.below t.place (way t.mask (k.hash w) K)) ++ (x, k) :: L.drop (SetTable.below t.place (way t.mask (k.hash w) K))).map fun p => p.2.hash w) := by
      rw [List.map_append, List.map_cons]; exact q3
    generalize t.put (way t.mask (k.hash w) K) = pt at q1 q3' q4 q5 ⊢
    obtain ⟨t1, p⟩ := pt
    dsimp only at q1 q3' q4 q5 ⊢
    subst q1
    generalize SetTable.below t.place (way t.mask (k.hash w) K) = p at rows1 q3' ⊢
    have pm := put_perm L p (x, k)
    generalize L.take p ++ (x, k) :: L.drop p = L1 at pm rows1 q3'
    generalize SetTable.insertAt es p (k.hash w, Value.ref x) = es1 at rows1 ⊢
    have nd1 : (L1.map (·.2)).Nodup := (pm.map (·.2)).nodup_iff.mpr (by rw [List.map_cons]; exact List.nodup_cons.mpr ⟨hm, R.nd⟩)
    have key1 : ∀ p ∈ L1, IsN P w s.heap p.2 p.1 := fun z hz => by
      rcases List.mem_cons.mp (pm.mem_iff.mp hz) with e | hz
      · rw [e]; exact hx
      · exact R.key z hz
    have fin : ∀ t2 : SetTable, TabOk t2 (L1.map fun p => p.2.hash w) → t2.mask = t1.mask → t2.led = t1.led → wpAny (model P w) A (do
        storeSet a es1 t2
        if t2.tooFull then setRelay a (SetTable.grown (es.size + 1))
        return true) Q E s := fun t2 T e1 e2 => put_in ho hex hd pm nd1 key1 rows1 T (by rw [e2, q5]; exact R.led) (by rw [e1, q4]; exact mk) R.num fun h' L' es' ep' t' sb R' pm' => q true h' L' es' ep' t' sb R' (fun z => absurd z hm) fun _ => pm'
    by_cases pl : t1.plain = true
    · refine wp_if_pos pl (wpAny_bind (by_key k _ 8 _ hx.1 _ fun b => ?_))
      cases b
      · exact fin { t1 with plain := false } (tab_plain q3') rfl rfl
      · exact fin t1 q3' rfl rfl
    · refine wp_if_neg pl ?_
      exact fin t1 q3' rfl rfl
end
end My

set_option linter.all false
namespace My
open PySem PySem.Spec PyProof.Rows L2
/-! ### sets of nested keys: what has been put in; a new set -/
structure GotN (ks : List (Addr × NestedKey)) (i : Nat) (L : List (Addr × NestedKey)) : Prop where
  sub : ∀ p ∈ L, p ∈ ks.take i
  all : ∀ p ∈ ks.take i, p.2 ∈ L.map (·.2)
  len : L.length ≤ i
theorem GotN.zero (ks : List (Addr × NestedKey)) : GotN ks 0 [] := ⟨(fun _ h => nomatch h), (fun p h => by rw [List.take_zero] at h; cases h), Nat.le_refl 0⟩
theorem GotN.next {ks L L' : List (Addr × NestedKey)} {i : Nat} {p : Addr × NestedKey} (g : GotN ks i L) (h : ks[i]? = some p) (old : p.2 ∈ L.map (·.2) → L' = L) (new : p.2 ∉ L.map (·.2) → L'.Perm (p :: L)) : GotN ks (i + 1) L' := by
  have tk : ks.take (i + 1) = ks.take i ++ [p] := by rw [List.take_add_one, h]; rfl
  rcases Classical.em (p.2 ∈ L.map (·.2)) with c | c
  · rw [old c]
    refine ⟨fun q hq => by rw [tk]; exact List.mem_append_left _ (g.sub q hq), fun q hq => ?_, Nat.le_succ_of_le g.len⟩
    rw [tk] at hq
    rcases List.mem_append.mp hq with hq | hq
    · exact g.all q hq
    · rw [List.mem_singleton.mp hq]; exact c
  · have pm := new c
    refine ⟨fun q hq => ?_, fun q hq => (pm.map (·.2)).mem_iff.mpr ?_, by rw [pm.length_eq]; exact Nat.succ_le_succ g.len⟩
    · rw [tk]
      rcases List.mem_cons.mp (pm.mem_iff.mp hq) with rfl | hq
      · exact List.mem_append_right _ List.mem_cons_self
      · exact List.mem_append_left _ (g.sub q hq)
    · rw [tk] at hq
      rw [List.map_cons]
      rcases List.mem_append.mp hq with hq | hq
      · exact List.mem_cons_of_mem _ (g.all q hq)
      · rw [List.mem_singleton.mp hq]; exact List.mem_cons_self
section
variable {P : Program} {w : World}
theorem isN_keep {h h' : Heap} {k : NestedKey} {b : Addr} (x : IsN P w h k b) (hk : ∀ c o, h.get? c = some o → h'.get? c = some o) : IsN P w h' k b := ⟨NestedIs.at (fun c o _ _ e _ => hk c o e) _ _ x.1, x.2⟩
theorem SetN.keep {h h' : Heap} {a : Addr} {L : List (Addr × NestedKey)} {es : Array (Int × Value)} {ep : Nat} {t : SetTable} (R : SetN P w h a L es ep t) (ha : ∀ o, h.get? a = some o → h'.get? a = some o) (hk : ∀ p ∈ L, IsN P w h' p.2 p.1) : SetN P w h' a L es ep t := by
  obtain ⟨o, ho, r⟩ := R.ob
  exact ⟨⟨o, ha o ho, r⟩, R.rows, R.tab, R.nd, hk, R.led, R.room, R.few⟩
theorem setN_fresh {h : Heap} {a : Addr} (ho : h.get? a = some { cls := .type "set", dict := none, data := .set #[] 0 (.fresh 0 0 (!w.params.followText "set-order")) }) : SetN P w h a [] #[] 0 (.fresh 0 0 (!w.params.followText "set-order")) := by
  refine ⟨⟨_, ho, ⟨rfl, rfl, rfl⟩, rfl⟩, rfl, ⟨List.Pairwise.nil, rfl, rfl, .inl rfl, fun x hx => (nomatch hx), fun i h j hi => by simp at hi⟩, List.nodup_nil, fun _ h => (nomatch h), ?_, by show 0 * 5 < 7 * 3; decide, by show 0 < 64; decide⟩
  show _ ∨ (!w.params.followText "set-order") = true
  cases w.params.followText "set-order"
  · exact .inr rfl
  · exact .inl rfl
end
end My

set_option linter.all false
namespace My
open PySem PySem.Spec PyProof.Rows L2
/-! ### sets of nested keys: set(t) of a tuple -/
section
variable {P : Program} {w : World} {A : Around} {E : Value → Shared → Prop} {s : Shared}
theorem update_n {I : Addr} {fp wr : List Addr} {G : Array GenState → Array GenState → Prop} {n : Nat} {Pv : Nat → Value → Prop} {St : Nat → Shared → Prop} {R : Result → Shared → Prop}
    (W : WalksS P w A.in1 I fp wr G n Pv St) (S : Addr) (hSf : S ∉ fp) (ks : List (Addr × NestedKey)) (hn : n = ks.length) (few : ks.length ≤ 18) (val : ∀ i v, Pv i v → ∃ p, ks[i]? = some p ∧ v = .ref p.1)
    (h0 : Heap) (hk : ∀ p ∈ ks, IsN P w h0 p.2 p.1) (hS0 : h0.get? S = none) (hw0 : ∀ b ∈ wr, h0.get? b = none) (hu : (nestedKind P w).room A.in1) :
    ∀ (k i : Nat) (s : Shared), n - i = k → i ≤ n → St i s → (∀ b o, h0.get? b = some o → s.heap.get? b = some o) → (∃ L es ep t, SetN P w s.heap S L es ep t ∧ GotN ks i L) →
      (∀ s' L es ep t, Moved (S :: wr) G s s' → SetN P w s'.heap S L es ep t → GotN ks n L → (∀ b o, h0.get? b = some o → s'.heap.get? b = some o) → R (.ok (.ret .none)) s') →
      codeAny (model P w) A (.builtin "set.update.loop" ⟨[.ref S, .ref I], []⟩) R s := by
  have hSw : S ∉ wr := fun z => hSf (W.sub _ z)
  have sub1 : ∀ b ∈ wr, b ∈ S :: wr := fun b hb => List.mem_cons_of_mem _ hb
  have keepM : ∀ {s s' : Shared}, Moved wr G s s' → (∀ b o, h0.get? b = some o → s.heap.get? b = some o) → ∀ b o, h0.get? b = some o → s'.heap.get? b = some o := fun hm kp b o e =>
    hm.heap b o (fun hb => by rw [hw0 b hb] at e; cases e) (kp b o e)
  intro k
  induction k with
  | zero =>
    intro i s hk' hi hst kp ⟨L, es, ep, t, hS, g⟩ hR
    obtain rfl : i = n := by omega
    refine codeAny_builtin F.entry_set_update_loop ?_
    rw [Around.under_plainId F.plain_set_update_loop _]
    show wpAny _ A.in1 (pyNext (.ref I) >>= _) _ _ s
    refine wpAny_bind (W.done s _ _ hst fun s' hm => ?_)
    show wpAny _ A.in1 (ret Value.none) _ _ s'
    have kp' := keepM hm kp
    exact wpAny_pure (hR s' L es ep t (hm.mono sub1) (hS.keep (fun o e => hm.heap S o hSw e) fun p hp => isN_keep (hk p (List.mem_of_mem_take (g.sub p hp))) kp') g kp')
  | succ k ih =>
    intro i s hk' hi hst kp ⟨L, es, ep, t, hS, g⟩ hR
    have lt : i < n := by omega
    refine codeAny_builtin F.entry_set_update_loop ?_
    rw [Around.under_plainId F.plain_set_update_loop _]
    show wpAny _ A.in1 (pyNext (.ref I) >>= _) _ _ s
    refine wpAny_bind (W.item i s _ _ lt hst fun v s' hP hst' hm => ?_)
    obtain ⟨p, hp, rfl⟩ := val i v hP
    have kp' := keepM hm kp
    have hS' : SetN P w s'.heap S L es ep t := hS.keep (fun o e => hm.heap S o hSw e) fun q hq => isN_keep (hk q (List.mem_of_mem_take (g.sub q hq))) kp'
    have hx : IsN P w s'.heap p.2 p.1 := isN_keep (hk p (List.mem_of_getElem? hp)) kp'
    show wpAny _ A.in1 (holding [Value.ref p.1] (setAdd S (.ref p.1)) >>= _) _ _ s'
    refine wpAny_bind (wpAny_holding ?_)
    unfold setAdd
    refine wpAny_holding ?_
    refine wpAny_bind ((nestedKind P w).pyHash hu hx ?_)
    refine addN (s := { s' with toks := s'.toks + (nestedKind P w).draws p.2 }) hS' hx hu (by have := g.len; omega) fun b h' L' es' ep' t' sb hS2 c1 c2 => ?_
    have g' : GotN ks (i + 1) L' := g.next hp c1 c2
    have kp2 : ∀ b o, h0.get? b = some o → h'.get? b = some o := fun b o e => (sb.2 b (fun z => by rw [z, hS0] at e; cases e)).trans (kp' b o e)
    refine wpAny_pure ⟨plainId_quiet F.plain_set_update_loop _, ih (i + 1) _ (by omega) lt (W.frame _ s' _ _ hst' (Nat.le_add_right _ _) fun b hb o e => ?_) kp2 ⟨L', es', ep', t', hS2, g'⟩ fun s'' L2 es2 ep2 t2 hm'' hS'' g'' kp'' => ?_⟩
    · rw [sb.2 b (fun z : b = S => hSf (by rw [← z]; exact hb))]; exact e
    · refine hR s'' L2 es2 ep2 t2 (Moved.trans W.gtrans ((hm.mono sub1).then_heap (Nat.le_add_right _ _) fun b o hb e => ?_) hm'') hS'' g'' kp''
      rw [sb.2 b (fun z : b = S => hb (by rw [z]; exact List.mem_cons_self))]; exact e
abbrev newSet (w : World) : Obj := { cls := .type "set", dict := none, data := .set #[] 0 (.fresh 0 0 (!w.params.followText "set-order")) }
set_option maxHeartbeats 3200000 in
theorem call_setN {l : Addr} {items : Array Value} (ks : List (Addr × NestedKey)) {Q : Value → Shared → Prop} (hh : A.handled = none) (hl : s.heap.IsTuple l items) (hit : items.toList = ks.map fun p => Value.ref p.1)
    (hk : ∀ p ∈ ks, IsN P w s.heap p.2 p.1) (few : ks.length ≤ 18) (hu : A.units + 13 < cLine)
    (h : ∀ (h' : Heap) (tk : Nat) L es ep t, SetN P w h' s.heap.objs.size L es ep t → GotN ks ks.length L → (∀ b o, s.heap.get? b = some o → h'.get? b = some o) → Q (.ref s.heap.objs.size) { s with heap := h', toks := tk }) :
    wpAny (model P w) A (call (.type "set") [.ref l]) Q E s := by
  have isz : items.size = ks.length := by
    have q := congrArg List.length hit
    rw [Array.length_toList, List.length_map] at q
    exact q
  obtain ⟨c, tl, hmro⟩ := F.called_set.mro
  have hmade := F.called_set.made
  have hsub := F.called_set.sub
  refine wpAny_call (codeAny_of_tree ?_)
  show wpAny _ _ (callAny (.type "set") _) _ _ _
  refine wpAny_pure ⟨Code.quiet_builtin _ (by decide +kernel), codeAny_builtin F.entry_type_call ?_⟩
  rw [Around.under_plain (weight_type_call_type "set" [.ref l] []) rfl]
  have h1 := F.called_set.notType
  have h2 := F.called_set.canCreate
  have hct := F.typeCall_set_1 (.ref l)
  repeat (any_goals (first | assumption | wp_step))

  refine codeAny_mono (code_set_led1 (.ref l) (E := E) (Q₁ := fun obj s₁ => obj = .ref s.heap.objs.size ∧ s₁ = { s with heap := s.heap.push (newSet w) }) ⟨rfl, rfl⟩) fun r s₁ hr => ?_
  cases r with
  | error e => exact hr
  | ok fl =>
    cases fl with
    | ret obj =>
      obtain ⟨rfl, rfl⟩ := hr
      have hS : (s.heap.push (newSet w)).get? s.heap.objs.size = some (newSet w) := Heap.get?_push_size _ rfl
      have hT : Shared.TypeIs { s with heap := s.heap.push (newSet w) } (.ref s.heap.objs.size) "set" := ⟨_, hS, rfl⟩
      have hli := F.called_set.init.lookup
      have hbi := F.called_set.init.bind (.ref s.heap.objs.size)
      repeat (any_goals (first | assumption | wp_step))

      refine codeAny_mono (codeAny_call_builtin (R := wants (fun r s₂ => r = .none ∧ ∃ h' tk L es ep t, s₂ = { s with heap := h', toks := tk } ∧ SetN P w h' s.heap.objs.size L es ep t ∧ GotN ks ks.length L ∧
          (∀ b o, s.heap.get? b = some o → h'.get? b = some o)) E) F.called_set.init.plain F.entry_set_init (check_set_init_1 hT ?_)) fun r₂ s₂ hr₂ => ?_
      · obtain ⟨ol, hol, hcl, nl, hdl⟩ := hl
        obtain ⟨ocls, odict, odata, oslots⟩ := ol
        simp only at hcl hdl
        subst hcl; subst hdl
        have hol' : (s.heap.push (newSet w)).get? l = some { cls := .type "tuple", dict := odict, data := .seq items nl, slots := oslots } := Heap.get?_push_of_some _ hol
        have hsls := F.sub_tuple_set
        have hslf := F.sub_tuple_frozenset
        have hne : (Value.type "tuple" == Value.type "dict") = false := by decide
        have hl1 : (s.heap.push (newSet w)).IsTuple l items := ⟨_, hol', rfl, nl, rfl⟩
        unfold Builtin.«set.__init__» noKeywords Builtin.Frozenset.updateFrom
        generalize hPI : pyIter = PI
        wp_walk
        subst hPI

        refine wpAny_pyIter_tuple hl1 ?_
        refine wpAny_bind (wpAny_runValue ?_)
        have lS : l < s.heap.objs.size := Heap.lt_size hol
        have hh3 : A.in1.in1.in1.handled = none := by simp [hh]
        have neI : l ≠ (s.heap.push (newSet w)).objs.size := by
          rw [Heap.size_push]; exact Nat.ne_of_lt (Nat.lt_succ_of_lt lS)
        have hSf : s.heap.objs.size ∉ [(s.heap.push (newSet w)).objs.size, l] := by
          rw [Heap.size_push]; simp only [List.mem_cons, List.mem_singleton, List.not_mem_nil, or_false, not_or]
          exact ⟨Nat.ne_of_lt (Nat.lt_succ_self _), Nat.ne_of_gt lS⟩
        have val : ∀ (i : Nat) (v : Value), items[i]? = some v → ∃ p, ks[i]? = some p ∧ v = .ref p.1 := fun i v hv => by
          have q : items.toList[i]? = some v := by rw [Array.getElem?_toList]; exact hv
          rw [hit, List.getElem?_map] at q
          obtain ⟨p, h1, h2⟩ := Option.map_eq_some_iff.mp q
          exact ⟨p, h1, h2.symm⟩
        have none_of : ∀ b, s.heap.objs.size ≤ b → s.heap.get? b = none := fun b hb => by
          cases q : s.heap.get? b with
          | none => rfl
          | some o => exact absurd (Nat.lt_of_lt_of_le (Heap.lt_size q) hb) (Nat.lt_irrefl _)
        refine update_n ((Walks.tuple hh3 _ l neI items).toS) s.heap.objs.size
          hSf ks isz few val s.heap hk (none_of _ (Nat.le_refl _)) (fun b hb => none_of b (by
            rw [List.mem_singleton.mp hb, Heap.size_push]
            exact Nat.le_succ _)) (by show A.units + 1 + 1 + 1 + 8 < cLine; omega) (items.size - 0) 0 _ (by omega) (Nat.zero_le _)
          ⟨⟨_, Heap.get?_push_size _ rfl, rfl, rfl⟩, (hl1.push _)⟩ (fun b o e => Heap.get?_push_of_some _ (Heap.get?_push_of_some _ e)) ?hS0 ?hR
        case hS0 =>
          have hget : ((s.heap.push (newSet w)).push { cls := .type "tuple_iterator", data := .fields #[.ref l, .int 0 0] }).get? s.heap.objs.size = some (newSet w) := Heap.get?_push_of_some _ hS
          exact ⟨[], #[], 0, _, setN_fresh hget, GotN.zero ks⟩
        case hR =>
          intro s' L es ep t hm hS' g' kp
          obtain ⟨h', g2, d', tk', os'⟩ := s'
          have eg : g2 = s.gens := hm.gens
          have ed : d' = s.drawn := hm.drawn
          have eo : os' = s.os := hm.os
          subst eg; subst ed; subst eo
          show wpAny _ _ _ _ _ _
          refine wpAny_pure ?_
          show wpAny _ _ (ret Value.none) _ _ _
          rw [isz] at g'
          exact wpAny_pure ⟨rfl, h', tk', L, es, ep, t, rfl, hS', g', kp⟩

      · cases r₂ with
        | error e => exact hr₂
        | ok fl₂ =>
          cases fl₂ with
          | ret r =>
            obtain ⟨rfl, h', tk, L, es, ep, t, rfl, hS', g', hk'⟩ := hr₂
            repeat (any_goals (first | assumption | wp_step))
            exact h _ _ _ _ _ _ hS' g' hk'
          | _ => exact hr₂.elim
    | _ => exact hr.elim
end
end My

set_option linter.all false
namespace My
open PySem PySem.Spec PyProof.Rows L2
/-! ### sets of nested keys: sorted(s), and both as rules -/
theorem perm_unmap {α β : Type} {f : α → β} {l l' : List β} (p : l.Perm l') : ∀ L : List α, L.map f = l → ∃ L' : List α, L'.Perm L ∧ L'.map f = l' := by
  induction p with
  | nil => exact fun L e => ⟨L, List.Perm.refl _, e⟩
  | cons x _ ih =>
    intro L e
    cases L with
    | nil => cases e
    | cons a L =>
      injection e with e1 e2
      obtain ⟨L', p', e'⟩ := ih L e2
      exact ⟨a :: L', p'.cons a, by rw [List.map_cons, e1, e']⟩
  | swap x y l =>
    intro L e
    cases L with
    | nil => cases e
    | cons a L =>
      injection e with e1 e
      cases L with
      | nil => cases e
      | cons b L =>
        injection e with e2 e3
        exact ⟨b :: a :: L, List.Perm.swap .., by rw [List.map_cons, List.map_cons, e1, e2, e3]⟩
  | trans _ _ ih1 ih2 =>
    intro L e
    obtain ⟨L1, p1, e1⟩ := ih1 L e
    obtain ⟨L2, p2, e2⟩ := ih2 L1 e1
    exact ⟨L2, p2.trans p1, e2⟩
theorem each_ref : ∀ L : List (Addr × NestedKey), PySem.W.EachIs (fun (u : Value) q => u = Value.ref q.1) (L.map fun q => Value.ref q.1) L
  | [] => .nil
  | _ :: L => .cons rfl (each_ref L)
theorem ref_each : ∀ {us : List Value} {L : List (Addr × NestedKey)}, PySem.W.EachIs (fun (u : Value) q => u = Value.ref q.1) us L → us = L.map fun q => Value.ref q.1
  | _, _, .nil => rfl
  | _, _, .cons h t => by rw [h, ref_each t]; rfl
theorem each_all {α β : Type} {R : α → β → Prop} (f : β → α) : ∀ {L : List β}, (∀ q ∈ L, R (f q) q) → PySem.W.EachIs R (L.map f) L
  | [], _ => .nil
  | _ :: _, h => .cons (h _ List.mem_cons_self) (each_all f fun q hq => h q (List.mem_cons_of_mem _ hq))
section
variable {P : Program} {w : World} {A : Around} {E : Value → Shared → Prop} {s : Shared}
theorem sorted_setN {a : Addr} {L : List (Addr × NestedKey)} {es : Array (Int × Value)} {ep : Nat} {t : SetTable} {Q : Value → Shared → Prop} (R : SetN P w s.heap a L es ep t) (hh : A.handled = none) (hu : A.units + 64 < cLine)
    (D : Addr × NestedKey → PyData) (rd : ∀ q ∈ L, ∃ as, Reads s.heap (.ref q.1) (D q) as) (al : PySem.W.AllAlike (L.map D)) (so : PySem.W.Sortable (L.map D)) (dp : ∀ q ∈ L, (D q).depth ≤ 50)
    (hQ : ∀ s' p (out : Array Value) (c : Nat) (L' : List (Addr × NestedKey)), (∀ b o, s.heap.get? b = some o → s'.heap.get? b = some o) → s'.gens = s.gens → s'.os = s.os → s.heap.objs.size ≤ p →
      s'.heap.get? p = some (seqObj "list" out c) → out.toList = L'.map (fun q => Value.ref q.1) → L'.Perm L → L'.Pairwise (fun q r => PySem.W.dataLe false D q r = true) → Q (.ref p) s') :
    wpAny (model P w) A (call (.builtin "sorted") [.ref a]) Q E s := by
  obtain ⟨o, ho, hex, hd⟩ := R.ob
  have num := R.num
  have few := R.few
  refine Calls.call_function_entry kind_sorted plain_sorted entry_sorted (args_sorted1 _) ?_
  unfold Builtin.«sorted»
  refine wpAny_bind (m := checkCount "sorted" 1 1 _) (wpAny_pure ?_)
  refine wpAny_bind (collect_set (A := A.in1) hh ⟨o, ho, hex.1, hd⟩ R.fit (by unfold scanBound; omega) R.tab.ris R.led fun s1 vs k1 hz g1 o1 pm => ?_)
  have hes : es.toList.map (·.2) = L.map fun q => Value.ref q.1 := by
    rw [R.rows, List.map_map]; rfl
  rw [hes] at pm
  obtain ⟨L1, p1, rfl⟩ := perm_unmap pm.symm L rfl
  have l1 : (L1.map fun q => Value.ref q.1).length < 64 := by rw [List.length_map, p1.length_eq]; exact few
  refine wpAny_bind (wpAny_newList ?_ (by rw [sizeLine_eq]; omega))
  have hoL : (s1.heap.push (seqObj "list" (L1.map fun q => Value.ref q.1).toArray 0)).get? s1.heap.objs.size = some (seqObj "list" (L1.map fun q => Value.ref q.1).toArray 0) := Heap.get?_push_size _ rfl
  have er : PySem.W.EachIs (fun v b => ∃ as, Reads (s1.heap.push (seqObj "list" (L1.map fun q => Value.ref q.1).toArray 0)) v (D b) as ∧ s1.heap.objs.size ∉ as) (L1.map fun q => Value.ref q.1) L1 := each_all _ fun q hq => by
    obtain ⟨as, r⟩ := rd q (p1.mem_iff.mp hq)
    have r1 := PyProof.Rows.Reads.keeps k1 r
    refine ⟨as, PyProof.Rows.Reads.keeps (fun b u e => Heap.get?_push_of_some _ e) r1, fun z => ?_⟩
    obtain ⟨u, e⟩ := PyProof.On.reads_mem_get r1 _ z
    exact absurd (Heap.lt_size e) (Nat.lt_irrefl _)
  have mm : ∀ d, d ∈ L1.map D ↔ d ∈ L.map D := fun d => (p1.map D).mem_iff
  refine wpAny_bind (wpAny_holding (PySem.W.list_sort_data (enc := D) (s := { s1 with heap := s1.heap.push (seqObj "list" (L1.map fun q => Value.ref q.1).toArray 0) }) hoL (each_ref L1) er (fun d hd e he => al d ((mm d).mp hd) e ((mm e).mp he)) ?_ (by rw [List.length_map] at l1; rw [sizeLine_eq]; omega) (fun b hb => ?_) fun out ol eo => ?_))
  · rcases so with so | so
    · exact .inl fun d hd => so d ((mm d).mp hd)
    · exact .inr fun d hd => so d ((mm d).mp hd)
  · have := dp b (p1.mem_iff.mp hb)
    show A.units + 1 + 1 + (D b).depth < cLine
    omega
  · obtain ⟨c, hc⟩ := sortedHeap_at (vs := L1.map fun q => Value.ref q.1) (out := out.toArray) hoL
    have srt := List.pairwise_mergeSort (le := PySem.W.dataLe false D) (fun a b c h1 h2 => le_trans' _ a b c h1 h2) (fun a b => le_total' _ a b) L1
    refine wpAny_pure ⟨_, rfl, hQ _ s1.heap.objs.size out.toArray c (L1.mergeSort (PySem.W.dataLe false D)) (fun b u e => ?_) g1 o1 hz hc (ref_each eo) ((List.mergeSort_perm _ _).trans p1) srt⟩
    have q := k1 b u e
    have lt := Heap.lt_size q
    show (sortedHeap (s1.heap.push (seqObj "list" (L1.map fun q => Value.ref q.1).toArray 0)) s1.heap.objs.size (L1.map fun q => Value.ref q.1) out.toArray).get? b = some u
    rw [sortedHeap_old (Nat.ne_of_lt lt) (by rw [size_push']; exact Nat.lt_succ_of_lt lt)]
    exact Heap.get?_push_of_some _ q
/-- such a set, without what its keys are -/
structure SetN0 (w : World) (h : Heap) (a : Addr) (L : List (Addr × NestedKey)) : Prop where
  ex : ∃ (es : Array (Int × Value)) (ep : Nat) (t : SetTable), (∃ o, h.get? a = some o ∧ o.ExactSet ∧ o.data = .set es ep t) ∧ es.toList = L.map (fun p => (p.2.hash w, Value.ref p.1)) ∧ TabOk t (L.map fun p => p.2.hash w) ∧ (L.map (·.2)).Nodup ∧
    (w.params.followText "set-order" = true ∨ t.led = true) ∧ L.length * 5 < t.mask * 3 ∧ L.length < 64
def SetNO (w : World) (a : Addr) (L : List (Addr × NestedKey)) : HO := .ext fun h => SetN0 w h a L
theorem SetN.n0 {h : Heap} {a : Addr} {L : List (Addr × NestedKey)} {es : Array (Int × Value)} {ep : Nat} {t : SetTable} (R : SetN P w h a L es ep t) : SetN0 w h a L := ⟨es, ep, t, R.ob, R.rows, R.tab, R.nd, R.led, R.room, R.few⟩
theorem SetN0.full {h : Heap} {a : Addr} {L : List (Addr × NestedKey)} (R : SetN0 w h a L) (k : ∀ p ∈ L, IsN P w h p.2 p.1) : ∃ es ep t, SetN P w h a L es ep t := by
  obtain ⟨es, ep, t, h1, h2, h3, h4, h5, h6, h7⟩ := R.ex
  exact ⟨es, ep, t, h1, h2, h3, h4, k, h5, h6, h7⟩
theorem setNO_new {H : Hp} {h : Heap} {a : Addr} {L : List (Addr × NestedKey)} (R : SetN0 w h a L) : ObjOk P w H h a (SetNO w a L) := by
  have ⟨es, ep, t, ⟨o, ho, r⟩, q⟩ := R.ex
  refine ⟨R, ⟨o, ho⟩, fun h1 h2 p k => ?_⟩
  have ⟨es', ep', t', ⟨o', ho', r'⟩, q'⟩ := SetN0.ex p
  exact ⟨es', ep', t', ⟨o', k o' ho', r'⟩, q'⟩
theorem vals_refsN : ∀ {ks : List (Addr × NestedKey)} {us : List Value}, Vals (ks.map fun p => V.ref p.1) us → us = ks.map fun p => Value.ref p.1
  | [], _, .nil => rfl
  | p :: ks, _, .cons r t => by
    cases r
    rw [vals_refsN t]; rfl
theorem refs_valsN : ∀ (ks : List (Addr × NestedKey)), Vals (ks.map fun p => V.ref p.1) (ks.map fun p => Value.ref p.1)
  | [] => .nil
  | p :: ks => .cons rfl (refs_valsN ks)
end
section
variable {X : Cx}
def rSetX (w : World) : List V → Hp → VK → Prop := fun xs H Q => ∃ (l : Addr) (ks : List (Addr × NestedKey)), xs = [.ref l] ∧ H l = some (.tup (ks.map fun p => V.ref p.1)) ∧ (∀ p ∈ ks, KeyV H p.2 (.ref p.1) ∧ p.2.depth ≤ 8) ∧ ks.length ≤ 18 ∧
  ∀ a L, H a = none → (∀ p ∈ L, p ∈ ks) → (∀ p ∈ ks, p.2 ∈ L.map (·.2)) → (L.map (·.2)).Nodup → Q (.ref a) (upd H a (SetNO w a L))
theorem cr_setX (hc : X.calm = true) (hu : X.A.units + 64 < cLine) : CallR X (.type "set") (rSetX X.w) := by
  intro pins s σ H xs us Q I r h
  obtain ⟨l, ks, rfl, hl, hk, few, q⟩ := h
  obtain ⟨u, rfl, rx⟩ := vals1 r
  cases (show u = Value.ref l from rx)
  obtain ⟨its, rv, ht, hz⟩ := I.tuple (SqT.of (K := X.K) hl)
  have hn : H s.heap.objs.size = none := I.hok.fresh (Nat.le_refl _)
  refine call_setN (P := X.prog) (w := X.w) ks (I.ok.hd hc) ht (by simpa using vals_refsN rv) (fun p hp => ⟨(hk p hp).1.is I rfl, (hk p hp).2⟩) few (by omega) fun h' tk L es ep t R g k => ?_
  refine ⟨.ref s.heap.objs.size, upd H s.heap.objs.size (SetNO X.w s.heap.objs.size L), I.laid (t' := tk) k (Nat.le_refl _) (setNO_new R.n0), rfl, q _ L hn (fun p hp => List.mem_of_mem_take (g.sub p hp)) (fun p hp => g.all p (by rw [List.take_length]; exact hp)) R.nd⟩
def rSortN (w : World) : List V → Hp → VK → Prop := fun vs H Q => ∃ (a : Addr) (L : List (Addr × NestedKey)) (D : Addr × NestedKey → PyData), vs = [.ref a] ∧ H a = some (SetNO w a L) ∧ (∀ p ∈ L, KeyV H p.2 (.ref p.1) ∧ p.2.depth ≤ 8) ∧ (∀ p ∈ L, Dx w H (.ref p.1) (D p)) ∧
  PySem.W.AllAlike (L.map D) ∧ PySem.W.Sortable (L.map D) ∧ (∀ p ∈ L, (D p).depth ≤ 50) ∧
  ∀ (L' : List (Addr × NestedKey)) (p : Addr), L'.Perm L → L'.Pairwise (fun q r => PySem.W.dataLe false D q r = true) → H p = none → Q (.ref p) (upd H p (.lst (L'.map fun q => V.ref q.1)))
theorem cr_sortN (hc : X.calm = true) (hu : X.A.units + 64 < cLine) : CallR X (.builtin "sorted") (rSortN X.w) := by
  intro pins s σ H vs us Q I r h
  obtain ⟨a, L, D, rfl, ha, hk, hd, al, so, dp, q⟩ := h
  have R0 : SetN0 X.w s.heap a L := (I.hok a _ ha).1
  obtain ⟨es, ep, t, R⟩ := R0.full (P := X.prog) fun p hp => ⟨(hk p hp).1.is I rfl, (hk p hp).2⟩
  obtain ⟨u, rfl, rx⟩ := vals1 r
  cases (show u = Value.ref a from rx)
  refine sorted_setN R (I.ok.hd hc) hu D (fun p hp => Dx.reads I _ _ _ (hd p hp) rfl) al so dp fun s' p out c L' k g o hp hg ho pm pw => ?_
  have few : L'.length < 64 := by rw [pm.length_eq]; exact R.few
  have ln : (L'.map fun q => V.ref q.1).length ≤ sizeLine := by rw [List.length_map, sizeLine_eq]; omega
  have hn : H p = none := I.hok.fresh hp
  have hv : Vals (L'.map fun q => V.ref q.1) out.toList := by rw [ho]; exact refs_valsN L'
  have J : Inv X pins σ (upd H p (.lst (L'.map fun q => V.ref q.1))) { s with heap := s'.heap, gens := s'.gens, drawn := s'.drawn, toks := s'.toks } :=
    I.call (ch := []) (Un.laid k hp hn) (I.hok.laid k hp ⟨ln, out.toList, c, hv, hg⟩) (by rw [g]; exact I.bare) (fun _ z => nomatch z)
  have e : s' = { s with heap := s'.heap, gens := s'.gens, drawn := s'.drawn, toks := s'.toks } := by
    cases s'
    cases s
    cases o
    rfl
  rw [e]
  exact ⟨.ref p, _, J, rfl, q L' p pm pw hn⟩
end
end My

set_option linter.all false
namespace My
open PySem PySem.Spec PyProof.Rows L2
/-! ### triples of shares: rising, and sorted without twins -/
abbrev Tr := (Int × Str) × (Int × Int)
def trD (q : Tr) : PyData := .tuple [.int q.1.1, .str q.1.2, .tuple [.int q.2.1, .int q.2.2]]
def trK (q : Tr) : NestedKey := .tup [.num q.1.1, .text q.1.2, .tup [.num q.2.1, .num q.2.2]]
def kTr : NestedKey → Tr
  | .tup [.num g, .text x, .tup [.num n, .num m]] => ((g, x), (n, m))
  | _ => ((0, ""), (0, 0))
theorem kTr_trK (q : Tr) : kTr (trK q) = q := rfl
theorem trK_inj {p q : Tr} (h : trK p = trK q) : p = q := by
  have := congrArg kTr h
  exact this
theorem str_eqv (x y : Str) : PyData.eqv (.str x) (.str y) = decide (x = y) := by
  simp only [PyData.eqv]
  apply Bool.eq_iff_iff.mpr
  simp
theorem int_eqv (x y : Int) : PyData.eqv (.int x) (.int y) = decide (x = y) := by
  simp only [PyData.eqv]
  apply Bool.eq_iff_iff.mpr
  simp
theorem eqv_trD (p q : Tr) : PyData.eqv (trD p) (trD q) = decide (p = q) := by
  obtain ⟨⟨g, x⟩, n, m⟩ := p
  obtain ⟨⟨g', x'⟩, n', m'⟩ := q
  show PyData.eqvAll [.int g, .str x, .tuple [.int n, .int m]] [.int g', .str x', .tuple [.int n', .int m']] = _
  have e : PyData.eqv (.tuple [.int n, .int m]) (.tuple [.int n', .int m']) = (decide (n = n') && decide (m = m')) := by
    show PyData.eqvAll [.int n, .int m] [.int n', .int m'] = _
    simp only [PyData.eqvAll, int_eqv, Bool.and_true]
  simp only [PyData.eqvAll, int_eqv, str_eqv, e, Bool.and_true]
  apply Bool.eq_iff_iff.mpr
  simp only [Bool.and_eq_true, decide_eq_true_eq, Prod.mk.injEq, and_assoc]
theorem eqvs_trD : ∀ l m : List Tr, PyData.eqv (.list (l.map trD)) (.list (m.map trD)) = decide (l = m)
  | [], [] => by simp [PyData.eqv, PyData.eqvAll]
  | [], q :: m => by simp [PyData.eqv, PyData.eqvAll]
  | p :: l, [] => by simp [PyData.eqv, PyData.eqvAll]
  | p :: l, q :: m => by
    have ih := eqvs_trD l m
    have e : PyData.eqv (.list ((p :: l).map trD)) (.list ((q :: m).map trD)) = (PyData.eqv (trD p) (trD q) && PyData.eqv (.list (l.map trD)) (.list (m.map trD))) := by
      simp only [List.map_cons, PyData.eqv, PyData.eqvAll]
    rw [e, ih, eqv_trD]
    apply Bool.eq_iff_iff.mpr
    simp only [Bool.and_eq_true, decide_eq_true_eq, List.cons.injEq]
theorem alike_trD (p q : Tr) : PySem.W.alike (trD p) (trD q) = true := by simp [trD, PySem.W.alike, PySem.W.alikeAll]
theorem asymD {d e : PyData} (h : PySem.W.dataLt d e = true) : PySem.W.dataLt e d = false := KeyOrd.klt_asymm (O := listOrd itemOrd) h
theorem leD {d e f : PyData} (g1 : PySem.W.dataLt e d = false) (g2 : PySem.W.dataLt f e = false) : PySem.W.dataLt f d = false := KeyOrd.kle_trans (O := listOrd itemOrd) g1 g2
theorem irrD (d : PyData) : PySem.W.dataLt d d = false := by
  cases h : PySem.W.dataLt d d with
  | false => rfl
  | true => have := asymD h; rw [h] at this; cases this
theorem lt_trD (p q : Tr) : PySem.W.dataLt (trD p) (trD q) = if p.1.1 = q.1.1 then (if p.1.2 = q.1.2 then decide (p.2.1 < q.2.1 ∨ (p.2.1 = q.2.1 ∧ p.2.2 < q.2.2)) else decide (p.1.2.cps.toList < q.1.2.cps.toList)) else decide (p.1.1 < q.1.1) := by
  obtain ⟨⟨g, x⟩, n, m⟩ := p
  obtain ⟨⟨g', x'⟩, n', m'⟩ := q
  unfold trD
  dsimp only
  rw [PySem.W.dataLt_tuple, PySem.W.dataLt_cons (by simp [PySem.W.alike]), int_eqv, PySem.W.dataLt_int, PySem.W.dataLt_cons (by simp [PySem.W.alike]), str_eqv, PySem.W.dataLt_str, PySem.W.dataLt_cons (by simp [PySem.W.alike, PySem.W.alikeAll]), PySem.W.dataLt_ii]
  by_cases h1 : g = g'
  · by_cases h2 : x = x'
    · rw [if_pos (decide_eq_true h1), if_pos h1, if_pos (decide_eq_true h2), if_pos h2]
      by_cases h3 : PyData.eqv (.tuple [.int n, .int m]) (.tuple [.int n', .int m']) = true
      · rw [if_pos h3]
        have e : PyData.eqv (.tuple [.int n, .int m]) (.tuple [.int n', .int m']) = (decide (n = n') && decide (m = m')) := by
          show PyData.eqvAll [.int n, .int m] [.int n', .int m'] = _
          simp only [PyData.eqvAll, int_eqv, Bool.and_true]
        rw [e] at h3
        simp only [Bool.and_eq_true, decide_eq_true_eq] at h3
        obtain ⟨rfl, rfl⟩ := h3
        have e2 : lexLt itemOrd (PySem.W.keyToksAll []) (PySem.W.keyToksAll []) = false := by rw [← PySem.W.dataLt_tuple]; exact irrD _
        rw [e2]
        simp
      · rw [if_neg h3]
    · rw [if_pos (decide_eq_true h1), if_pos h1, if_neg (by simpa using h2), if_neg h2]
  · rw [if_neg (by simpa using h1), if_neg h1]
theorem anti_trD {p q : Tr} (h1 : PySem.W.dataLt (trD p) (trD q) = false) (h2 : PySem.W.dataLt (trD q) (trD p) = false) : p = q := by
  rw [lt_trD] at h1 h2
  obtain ⟨⟨g, x⟩, n, m⟩ := p
  obtain ⟨⟨g', x'⟩, n', m'⟩ := q
  dsimp only at h1 h2
  by_cases c1 : g = g'
  · subst c1
    rw [if_pos rfl] at h1 h2
    by_cases c2 : x = x'
    · subst c2
      rw [if_pos rfl] at h1 h2
      have a1 := of_decide_eq_false h1
      have a2 := of_decide_eq_false h2
      have e1 : n = n' := by omega
      have e2 : m = m' := by omega
      rw [e1, e2]
    · rw [if_neg c2] at h1
      rw [if_neg (fun z => c2 z.symm)] at h2
      have a1 := of_decide_eq_false h1
      have a2 := of_decide_eq_false h2
      have e : x.cps.toList = x'.cps.toList := List.le_antisymm (List.not_lt.mp a2) (List.not_lt.mp a1)
      exact absurd (by cases x; cases x'; simp only [Str.mk.injEq]; exact Array.toList_inj.mp e) c2
  · rw [if_neg c1] at h1
    rw [if_neg (fun z => c1 z.symm)] at h2
    have a1 := of_decide_eq_false h1
    have a2 := of_decide_eq_false h2
    exact absurd (by omega) c1
theorem irr_trD (p : Tr) : PySem.W.dataLt (trD p) (trD p) = false := irrD _
theorem asym_trD {p q : Tr} (h : PySem.W.dataLt (trD p) (trD q) = true) : PySem.W.dataLt (trD q) (trD p) = false := asymD h
theorem trans_trD {p q r : Tr} (h1 : PySem.W.dataLt (trD p) (trD q) = true) (h2 : PySem.W.dataLt (trD q) (trD r) = true) : PySem.W.dataLt (trD p) (trD r) = true := by
  cases h : PySem.W.dataLt (trD p) (trD r) with
  | true => rfl
  | false =>
    -- r ≤ p < q, so r < q or r = q .. against q < r
    have g : PySem.W.dataLt (trD q) (trD p) = false := asym_trD h1
    have g2 : PySem.W.dataLt (trD r) (trD q) = false := asym_trD h2
    have t : PySem.W.dataLt (trD p) (trD q) = false := leD g2 h
    rw [t] at h1; cases h1
theorem rise_pw : ∀ l : List Tr, riseD (l.map trD) = true ↔ l.Pairwise fun p q => PySem.W.dataLt (trD p) (trD q) = true
  | [] => ⟨fun _ => List.Pairwise.nil, fun _ => rfl⟩
  | [p] => ⟨fun _ => List.pairwise_singleton _ _, fun _ => rfl⟩
  | p :: q :: l => by
    have ih := rise_pw (q :: l)
    show (PySem.W.dataLt (trD p) (trD q) && riseD ((q :: l).map trD)) = true ↔ _
    rw [Bool.and_eq_true, ih, List.pairwise_cons (a := p)]
    constructor
    · rintro ⟨h1, h2⟩
      refine ⟨fun r hr => ?_, h2⟩
      rcases List.mem_cons.mp hr with rfl | hr
      · exact h1
      · exact trans_trD h1 ((List.pairwise_cons.mp h2).1 r hr)
    · rintro ⟨h1, h2⟩
      exact ⟨h1 q List.mem_cons_self, h2⟩
theorem sorted_is {l m : List Tr} (nd : m.Nodup) (mem : ∀ p, p ∈ m ↔ p ∈ l) (srt : m.Pairwise fun p q => PySem.W.dataLt (trD q) (trD p) = false) : PyData.eqv (.list (l.map trD)) (.list (m.map trD)) = riseD (l.map trD) := by
  rw [eqvs_trD]
  apply Bool.eq_iff_iff.mpr
  rw [decide_eq_true_eq, rise_pw]
  constructor
  · rintro rfl
    refine (List.Pairwise.and srt nd).imp fun {p q} h => ?_
    cases c : PySem.W.dataLt (trD p) (trD q) with
    | true => rfl
    | false => exact absurd (anti_trD c h.1) h.2
  · intro h
    have nl : l.Nodup := h.imp fun {p q} z e => by
      rw [e, irr_trD] at z; cases z
    have pm : l.Perm m := (List.perm_ext_iff_of_nodup nl nd).mpr fun p => (mem p).symm
    exact pm.eq_of_pairwise (le := fun p q => PySem.W.dataLt (trD q) (trD p) = false) (fun a b _ _ h1 h2 => anti_trD h2 h1) (h.imp fun {p q} z => asym_trD z) srt
end My

set_option linter.all false
namespace My
open PySem PySem.Spec PyProof.Rows L2
/-! ### the law's look at a row -/
abbrev sDueR : Stmt := topS 29
def spDueR (w : World) : Sp := fun vs H Q _ => ∃ (b : Int) (rr : Addr) (kvs : List Kvv) (ks : List PyData) (v : V) (d : PyData), vs = [.int b, .ref rr, v] ∧ DF w H rr kvs ∧ DxAll w H (kvs.map fun y => y.2.1) ks ∧ ks.all nameD = true ∧ Dx w H v d ∧ d.shown.length ≤ 16770000 ∧ ∀ H', Same H H' → Q (.bl (rowS b ks d)) H'
theorem trip_no {b : Int} {ks : List PyData} {d0 d1 d2 : PyData} (h : isT "int" d0 = false ∨ (∃ g, d0 = .int g ∧ (¬ 0 ≤ g ∨ ¬ g < b)) ∨ ks.any (match d1 with | .str x => strIs x | _ => fun _ => false) = false ∨ shareD d2 = false) : tripD b ks (.tuple [d0, d1, d2]) = false :=
  trip_not fun g x e0 e1 => by
    subst e0
    subst e1
    rcases h with h | ⟨g', e, h⟩ | h | h
    · cases h
    · cases e
      rcases h with h | h
      · rw [decide_eq_false h]; rfl
      · rw [decide_eq_false h, Bool.and_false]; rfl
    · have h' : ks.any (strIs x) = false := h
      rw [h', Bool.and_false]; rfl
    · rw [h, Bool.and_false]
theorem trip_three {b : Int} {ks ds : List PyData} (h : ds.length ≠ 3) : tripD b ks (.tuple ds) = false := by
  match ds with
  | [] => rfl
  | [a] => cases a <;> rfl
  | [a, b] => cases a <;> cases b <;> rfl
  | [_, _, _] => exact absurd rfl h
  | a :: b :: c :: d :: r => cases a <;> cases b <;> rfl
theorem name_in {x : Str} {ks : List PyData} (hn : ks.all nameD = true) (h : ks.any (strIs x) = true) : nameD (.str x) = true := by
  obtain ⟨k, hk, e⟩ := List.any_eq_true.mp h
  have := List.all_eq_true.mp hn k hk
  cases k with
  | str y =>
    have e' : x = y := by
      have : y = x ∨ x = y := by simpa [strIs, eq_comm] using e
      rcases this with h | h
      · exact h.symm
      · exact h
    rw [e']; exact this
  | _ => cases e
theorem tot_bd {l : List (Int × Int)} (h : ∀ s ∈ l, 0 < s.2 ∧ s.2 ≤ 100) : 0 < (totL l).2 ∧ (totL l).2 ≤ 100 ^ l.length := by
  obtain ⟨h1, _, h3⟩ := lcm_acc l 1 (by decide) fun s hs => (h s hs).1
  have T := (TotI.init ((lcmS l : Nat) : Int)).fold fun s hs => ⟨(h s hs).1, (h s hs).2, Int.natAbs_dvd.mp (Int.ofNat_dvd.mpr (h3 s hs))⟩
  refine ⟨T.pos, ?_⟩
  have := T.le
  rw [Int.one_mul] at this
  exact this
theorem tot_snoc (l : List (Int × Int)) (s : Int × Int) : totL (l ++ [s]) = addLow (totL l) s := by
  unfold totL
  rw [List.foldl_append]; rfl
theorem key_trD {w : World} {H : Hp} {v : V} {q : Tr} (h : Dx w H v (trD q)) : ∃ a, v = .ref a ∧ KeyV H (trK q) (.ref a) := by
  unfold trD at h
  cases h with
  | tup h t =>
    cases t with
    | cons q0 t =>
      cases t with
      | cons q1 t =>
        cases t with
        | cons q2 t =>
          cases t
          cases q0
          cases q1
          cases q2 with
          | tup g u =>
            cases u with
            | cons y0 u =>
              cases u with
              | cons y1 u =>
                cases u
                cases y0
                cases y1
                exact ⟨_, rfl, .tup h (.cons (.int _) (.cons (.str _) (.cons (.tup g (.cons (.int _) (.cons (.int _) .nil))) .nil)))⟩
theorem zs_of {w : World} {H : Hp} : ∀ {xs : List V} {l : List Tr}, DxAll w H xs (l.map trD) → ∃ zs : List (Addr × Tr), xs = zs.map (fun z => V.ref z.1) ∧ l = zs.map (·.2) ∧ ∀ z ∈ zs, Dx w H (.ref z.1) (trD z.2) ∧ KeyV H (trK z.2) (.ref z.1)
  | _, [], h => by cases h; exact ⟨[], rfl, rfl, fun _ h => nomatch h⟩
  | _, q :: l, h => by
    cases h with
    | cons h t =>
      obtain ⟨zs, e1, e2, a⟩ := zs_of t
      obtain ⟨a0, rfl, kv⟩ := key_trD h
      refine ⟨(a0, q) :: zs, by rw [e1]; rfl, by rw [e2]; rfl, fun z hz => ?_⟩
      rcases List.mem_cons.mp hz with rfl | hz
      · exact ⟨h, kv⟩
      · exact a z hz
theorem strOk_nameD {x : Str} (h : nameD (.str x) = true) : PyData.strOk x = true := by
  have h' : (decide (1 ≤ x.length) && decide (x.length ≤ 8) && x.cps.toList.all letC) = true := h
  rw [Bool.and_eq_true] at h'
  unfold PyData.strOk
  rw [Array.all_eq_true_iff_forall_mem]
  intro c hc
  have := List.all_eq_true.mp h'.2 c (Array.mem_toList_iff.mpr hc)
  unfold letC at this
  rw [Bool.and_eq_true, decide_eq_true_eq, decide_eq_true_eq] at this
  exact decide_eq_true (by omega)
theorem shp_trs (l : List Tr) (h : ∀ q ∈ l, PyData.strOk q.1.2 = true) : SeqAt.shaped (.list (l.map trD)) = true := by
  have h1 : PyData.canLayAll0 (l.map trD) = true := by
    induction l with
    | nil => simp [PyData.canLayAll0]
    | cons q r ih =>
      have e : PyData.canLay0 (trD q) = true := by
        unfold trD
        simp only [PyData.canLay0, PyData.canLayAll0, h q List.mem_cons_self, Bool.and_self]
      simp only [List.map_cons, PyData.canLayAll0, e, ih fun y hy => h y (List.mem_cons_of_mem _ hy), Bool.and_true]
  have h2 : PyData.depthAll (l.map trD) ≤ 2 := by
    clear h1 h
    induction l with
    | nil => simp only [List.map_nil, PyData.depthAll]; omega
    | cons q r ih =>
      have e : (trD q).depth = 2 := by
        unfold trD
        simp only [PyData.depth, PyData.depthAll]
        rfl
      simp only [List.map_cons, PyData.depthAll, e]
      omega
  unfold SeqAt.shaped
  simp only [PyData.canLay0, PyData.depth, h1, Bool.true_and]
  exact decide_eq_true (by omega)
theorem dep_trD (q : Tr) : (trD q).depth ≤ 50 := by
  unfold trD
  simp only [PyData.depth, PyData.depthAll]
  decide
theorem share_shape {d : PyData} (h : shareD d = true) : ∃ n m, d = .tuple [.int n, .int m] ∧ 0 < n ∧ n ≤ m ∧ m ≤ 100 := by
  unfold shareD at h
  split at h
  · rename_i n m
    simp only [Bool.and_eq_true, decide_eq_true_eq] at h
    have hf := h.1.1
    have hf' : (decide (0 ≤ n) && decide (n ≤ m) && decide (Nat.gcd n.natAbs m.natAbs = 1)) = true := hf
    simp only [Bool.and_eq_true, decide_eq_true_eq] at hf'
    exact ⟨n, m, rfl, h.1.2, hf'.1.2, h.2⟩
  · cases h
theorem one_eqv (t : Int × Int) : PyData.eqv (.tuple [.int t.1, .int t.2]) (.tuple [.int 1, .int 1]) = decide (t = (1, 1)) := by
  show PyData.eqvAll [.int t.1, .int t.2] [.int 1, .int 1] = _
  simp only [PyData.eqvAll, int_eqv, Bool.and_true]
  apply Bool.eq_iff_iff.mpr
  simp only [Bool.and_eq_true, decide_eq_true_eq]
  exact ⟨fun ⟨a, b⟩ => Prod.ext a b, fun e => by rw [e]; exact ⟨rfl, rfl⟩⟩
section
variable {P : Program} {w : World} {K : PySem.W.Frag} {mg : Str → Option Value} {base : Heap}
theorem scDueR : FnScope ["base", "rows", "row", "total", "triple"] ["base", "rows", "row"] (defScope sDueR) := ⟨rfl, rfl, rfl, by decide +kernel, rfl, by decide +kernel, by decide +kernel⟩
theorem ok_dueR {f fLw fNa fSh fLo : Addr} {fd fdLw fdNa fdSh fdLo : FuncData} (F : Fun K "_law_is_due_row" "_law_is_due_row" sDueR f fd) (T : TxP mg) (mli : mg "list" = none) (mse : mg "set" = none) (mso : mg "sorted" = none)
    (FLw : Fun K "_law_is_whole" "_law_is_whole" sLWh fLw fdLw) (bLw : Binds K fdLw ["thing"] []) (gLw : mg "_law_is_whole" = some (.ref fLw))
    (FNa : Fun K "_law_is_name" "_law_is_name" sLNm fNa fdNa) (bNa : Binds K fdNa ["thing"] []) (gNa : mg "_law_is_name" = some (.ref fNa))
    (FSh : Fun K "_law_is_share" "_law_is_share" sLSh fSh fdSh) (GSh : FnOk P w K mg base CX0 2 fSh fdSh ["thing"] (spLSh w)) (bSh : Binds K fdSh ["thing"] []) (gSh : mg "_law_is_share" = some (.ref fSh))
    (FLo : Fun K "_law_lowest" "_law_lowest" sLow fLo fdLo) (GLo : FnOk P w K mg base CX0 1 fLo fdLo ["top", "below"] spLow) (bLo : Binds K fdLo ["top", "below"] []) (gLo : mg "_law_lowest" = some (.ref fLo)) :
    FnOk P w K mg base CX0 3 f fd ["base", "rows", "row"] (spDueR w) := by
  have GLw : FnOk P w K mg base CX0 1 fLw fdLw ["thing"] (spWholeX w) := ok_lwh FLw T
  have GNa : FnOk P w K mg base CX0 1 fNa fdNa ["thing"] (spNameL w) := ok_lnm FNa T
  refine F.ok scDueR (fun vs H Q E h => ?_) (fun cdv A outer s H vs Q E hr h => ?_)
  · obtain ⟨b, rr, kvs, ks, v, d, rfl, _⟩ := h
    rfl
  · obtain ⟨b, rr, kvs, ks, v, d, rfl, hdf, hks, hnm, dv, hsh, k⟩ := h
    have hr1 : Room 1 _ := hr.mono (by decide)
    have hr2 : Room 2 _ := hr.mono (by decide)
    have hu9 := Nat.lt_trans (Nat.add_lt_add_left (show 9 < 64 by decide) _) hr.units
    refine ⟨_, (pss_cons (ps_if (PW.pt (pw_or (pt_not (pt_val (pe_callB call_isiX (by rfl) T.isi boot_isinstance (pa_cons (pv 2) (pa_cons (pe_bltn (v := .ty "tuple") (by rfl) T.tuple boot_tuple rfl) pa_nil))))) (pw_or1 (pt_not (pt_chain op_lt op_lt pe_int (pe_callB call_len_seq (by rfl) T.len PySem.boot_len (pa_cons (pv 2) pa_nil)) pe_int))))) (pss_one (ps_ret pe_bl)) pss_nil)
      (pss_cons (ps_set (i := 3) scDueR.nd rfl (Or.inl rfl) (pe_tupS (pa_cons pe_int (pa_cons pe_int pa_nil))))
      (pss_cons (ps_for PassesOwn.never rfl (pi_tup (pv 2)) (pg_name (i := 4) scDueR.nd rfl (Or.inl rfl)) (pss_cons (ps_if (PW.pt (pw_or (pt_not (pt_val (pe_callB call_isiX (by rfl) T.isi boot_isinstance (pa_cons (pv 4) (pa_cons (pe_bltn (v := .ty "tuple") (by rfl) T.tuple boot_tuple rfl) pa_nil))))) (pw_or (pt_cmpR op_ne (pe_callB call_len_seq (by rfl) T.len PySem.boot_len (pa_cons (pv 4) pa_nil)) pe_int (nomark _)) (pw_or1 (pt_not (pt_val (pe_call GLw hr1 (by rfl) gLw FLw.kp bLw .nil pass0 (pa_cons (pe_ix ix_tup (pv 4) pe_int (fun _ _ => rfl)) pa_nil)))))))) (pss_one (ps_ret pe_bl)) pss_nil)
      (pss_cons (ps_if (PW.pt (pw_or (pt_not (pt_chain op_le op_lt pe_int (pe_ix ix_tup (pv 4) pe_int (fun _ _ => rfl)) (pv 0))) (pw_or (pt_not (pt_val (pe_call GNa hr1 (by rfl) gNa FNa.kp bNa .nil pass0 (pa_cons (pe_ix ix_tup (pv 4) pe_int (fun _ _ => rfl)) pa_nil)))) (pw_or1 (pt_cmpR (op_notInF hu9) (pe_ix ix_tup (pv 4) pe_int (fun _ _ => rfl)) (pv 1) (by rfl)))))) (pss_one (ps_ret pe_bl)) pss_nil)
      (pss_cons (ps_if (pt_not (pt_val (pe_call GSh hr2 (by rfl) gSh FSh.kp bSh .nil pass0 (pa_cons (pe_ix ix_tup (pv 4) pe_int (fun _ _ => rfl)) pa_nil)))) (pss_one (ps_ret pe_bl)) pss_nil)
      (pss_one (ps_set (i := 3) scDueR.nd rfl (Or.inl rfl) (pe_call GLo hr1 (by rfl) gLo FLo.kp bLo .nil pass0 (pa_cons (pe_op op_add (pe_op op_mul (pe_ix ix_tup (pv 3) pe_int (fun _ _ => rfl)) (pe_ix ix_tup (pe_ix ix_tup (pv 4) pe_int (fun _ _ => rfl)) pe_int (fun _ _ => rfl))) (pe_op op_mul (pe_ix ix_tup (pe_ix ix_tup (pv 4) pe_int (fun _ _ => rfl)) pe_int (fun _ _ => rfl)) (pe_ix ix_tup (pv 3) pe_int (fun _ _ => rfl)))) (pa_cons (pe_op op_mul (pe_ix ix_tup (pv 3) pe_int (fun _ _ => rfl)) (pe_ix ix_tup (pe_ix ix_tup (pv 4) pe_int (fun _ _ => rfl)) pe_int (fun _ _ => rfl))) pa_nil)))))))))
      (pss_one (ps_ret (pe_and (pe_cmpR (op_eqX hr.units) (pe_callTy call_list_of (by rfl) mli boot_list (pa_cons (pv 2) pa_nil)) (pe_callB (show CallR _ _ (rSortN w) from cr_sortN rfl hr.units) (by rfl) mso boot_sorted (pa_cons (pe_callTy (show CallR _ _ (rSetX w) from cr_setX rfl hr.units) (by rfl) mse boot_set (pa_cons (pv 2) pa_nil)) pa_nil)) (nomark _)) (pe_one (pe_cmpR (op_eqX hr.units) (pv 3) (pe_tupS (pa_cons pe_int (pa_cons pe_int pa_nil))) (nomark _))))))))), ?_⟩
    have dv0 := dv
    refine ⟨_, rfl, _, _, _, _, rfl, dv, kit_tuple _, _, rfl, ?_⟩
    cases dv with
    | tup h1 h2 =>
      rename_i a xs ds
      have ln := h2.len
      refine iteF ⟨_, rfl, a, _, rfl, .inr (SqT.of h1), _, _, rfl, rfl, _, rfl, ?_⟩
      by_cases c0 : 0 < xs.length
      · refine ifT (decide_eq_true (by omega)) ⟨_, _, rfl, rfl, _, rfl, ?_⟩
        by_cases c13 : xs.length < 13
        · refine ifF (by rw [decide_eq_true (show (xs.length : Int) < 13 by omega)]; rfl) ?_
          refine ⟨(by show 2 ≤ sizeLine; decide), fun t0 H1 s1 ht0 => ?_⟩
          refine ⟨_, rfl, a, rfl, ⟨_, SqT.of (s1 _ _ h1)⟩, for_it (walk_tup (K := K) (a := a) (xs := xs)) (fun i σ Hi => ∃ (l : List Tr) (ta : Addr) (x4 : Option V), σ = [some (.int b), some (.ref rr), some (.ref a), some (.ref ta), x4] ∧ Same H Hi ∧
              Hi ta = some (.tup [.int (totL (l.map (·.2))).1, .int (totL (l.map (·.2))).2]) ∧ ds.take i = l.map trD ∧ (∀ q ∈ l, tripD b ks (trD q) = true) ∧ l.length = i) ?_ ?_ ?_ ?_⟩
          · exact ⟨[], t0, none, rfl, s1, ht0, rfl, (fun _ h => nomatch h), rfl⟩
          · rintro i σ Hi hi ⟨l, ta, x4, rfl, si, _⟩
            exact SqT.of (si _ _ h1)
          · rintro i x σ Hi Hi' hi ⟨l, ta, x4, rfl, si, hta, etk, hl, ll⟩ ⟨rfl, ex⟩
            obtain ⟨d0, g0, q0⟩ := h2.get ex
            have q0' := q0.mono si
            have i12 : i < 13 := by omega
            have no : tripD b ks d0 = false → ∀ H', Same H H' → Q (.bl false) H' := fun z H' s' => by
              have := k H' s'
              have e : rowS b ks (.tuple ds) = false := by
                show (_ && _ && ds.all (tripD b ks) && _ && _) = false
                rw [List.all_eq_false.mpr ⟨d0, List.mem_of_getElem? g0, by rw [z]; exact Bool.false_ne_true⟩]; simp
              rw [e] at this; exact this
            have yes : ∀ q : Tr, d0 = trD q → tripD b ks (trD q) = true → ds.take (i + 1) = (l ++ [q]).map trD ∧ (∀ y ∈ l ++ [q], tripD b ks (trD y) = true) ∧ (l ++ [q]).length = i + 1 := fun q e z => by
              refine ⟨by rw [List.take_add_one, g0, etk, List.map_append, e]; rfl, fun y hy => ?_, by rw [List.length_append, ll]; rfl⟩
              rcases List.mem_append.mp hy with hy | hy
              · exact hl y hy
              · rw [List.mem_singleton.mp hy]; exact z
            have bds : ∀ y ∈ l.map (·.2), 0 < y.2 ∧ y.2 ≤ 100 := fun y hy => by
              obtain ⟨q, hq, rfl⟩ := List.mem_map.mp hy
              obtain ⟨g, x, n, m, e, z1, z2, z3⟩ := tripD_shape (hl q hq)
              unfold trD at e
              injection e with e
              injection e with _ e
              injection e with _ e
              injection e with e _
              injection e with e
              injection e with e5 e
              injection e with e6 _
              injection e6 with e6
              rw [e6]
              exact ⟨by omega, z3⟩
            have dsh : d0.shown.length ≤ 16770000 := Nat.le_trans (in_tuple (List.mem_of_getElem? g0)) hsh
            refine ⟨_, rfl, x, d0, _, _, rfl, q0', kit_tuple _, _, rfl, ?_⟩
            cases q0 with
            | @tup a0 us es z1 z2 =>
              have ln0 := z2.len
              refine iteF ⟨_, rfl, a0, _, rfl, .inr (SqT.of (si _ _ z1)), rfl, _, rfl, ?_⟩
              by_cases l3 : us.length = 3
              · refine ifF (by simp [l3]) ?_
                obtain ⟨d0, d1, d2, rfl⟩ : ∃ d0 d1 d2, es = [d0, d1, d2] := by
                  match es, (ln0.symm.trans l3 : es.length = 3) with
                  | [d0, d1, d2], _ => exact ⟨d0, d1, d2, rfl⟩
                cases z2 with
                | cons q0 r0 =>
                  cases r0 with
                  | cons q1 r1 =>
                    cases r1 with
                    | cons q2 r2 =>
                      cases r2
                      rename_i v0 v1 v2
                      have z1' := si _ _ z1
                      refine ⟨_, rfl, a0, _, 0, v0, rfl, rfl, SqT.of z1', atI_nat (j := 0) rfl, v0, d0, rfl, q0.mono si, _, rfl, ?_⟩
                      by_cases i0 : ∃ g, d0 = .int g
                      · obtain ⟨g, rfl⟩ := i0
                        cases q0
                        refine iteF ?_
                        refine ⟨_, rfl, a0, _, 0, .int g, rfl, rfl, SqT.of z1', atI_nat (j := 0) rfl, _, _, rfl, rfl, _, rfl, ?_⟩
                        by_cases g0' : 0 ≤ g
                        · refine ifT (decide_eq_true g0') ⟨_, rfl, _, _, rfl, rfl, _, rfl, ?_⟩
                          by_cases g1 : g < b
                          · refine ifF (by rw [decide_eq_true g1]; rfl) ?_
                            refine ⟨_, rfl, a0, _, 1, v1, rfl, rfl, SqT.of z1', atI_nat (j := 1) rfl, v1, d1, rfl, q1.mono si, tx_of (Nat.le_trans (in_tuple (by simp)) dsh), fun Hn sn => ?_⟩
                            have sin := si.trans sn
                            refine ⟨_, rfl, ?_⟩
                            cases hn : nameD d1 with
                            | false =>
                              refine iteT (no (trip_not fun g' x' e1 e2 => ?_) Hn sin)
                              subst e2
                              cases an : ks.any (strIs x') with
                              | false => simp
                              | true => rw [name_in hnm an] at hn; cases hn
                            | true =>
                              obtain ⟨x', rfl⟩ : ∃ x', d1 = .str x' := by cases d1 <;> first | exact ⟨_, rfl⟩ | cases hn
                              cases q1
                              refine iteF ⟨_, rfl, a0, _, 1, .str x', rfl, rfl, SqT.of (sn _ _ z1'), atI_nat (j := 1) rfl, _, rfl, rr, kvs, .text x', rfl, hdf.mono sin, .str x', (by show 0 ≤ 8; decide), _, rfl, ?_⟩
                              rw [keys_any x' hdf.keyv hks]
                              cases an : ks.any (strIs x') with
                              | false => exact ifT rfl (no (trip_not fun g' y e1 e2 => by cases e2; rw [an]; simp) Hn sin)
                              | true =>
                                refine ifF rfl ?_
                                refine ⟨_, rfl, a0, _, 2, v2, rfl, rfl, SqT.of (sn _ _ z1'), atI_nat (j := 2) rfl, v2, d2, rfl, q2.mono sin, fun Hm sm => ?_⟩
                                have sim := sin.trans sm
                                refine ⟨_, rfl, ?_⟩
                                cases hs2 : shareD d2 with
                                | false => exact iteT (no (trip_not fun g' y e1 e2 => by rw [hs2]; simp) Hm sim)
                                | true =>
                                  refine iteF ?_
                                  obtain ⟨n, m, rfl, n0, nm, m1⟩ := share_shape hs2
                                  cases q2 with
                                  | @tup a2 us2 _ y1 y2 =>
                                    cases y2 with
                                    | cons w0 y2 =>
                                      cases y2 with
                                      | cons w1 y2 =>
                                        cases y2; cases w0; cases w1
                                        have z1m := sim _ _ z1
                                        have y1m := sim _ _ y1
                                        have htm : Hm ta = _ := (sn.trans sm) _ _ hta
                                        obtain ⟨tp, tl⟩ := tot_bd bds
                                        obtain ⟨w1, w2, w3⟩ := yes ((g, x'), (n, m)) rfl (by
                                          show (decide (0 ≤ g) && decide (g < b) && ks.any (strIs x') && shareD (.tuple [.int n, .int m])) = true
                                          rw [decide_eq_true g0', decide_eq_true g1, an, hs2]; rfl)
                                        have tl2 : (totL (l.map (·.2))).2 ≤ 100 ^ 13 := Int.le_trans tl (by
                                          rw [List.length_map, ll]
                                          exact_mod_cast Nat.pow_le_pow_right (by decide : 0 < 100) (by omega : i ≤ 13))
                                        have mp : 0 < m := by omega
                                        have bp : 0 < (totL (l.map (·.2))).2 * m := Int.mul_pos tp mp
                                        have bl : ((totL (l.map (·.2))).2 * m).natAbs < 2 ^ 8000 := by
                                          have h1 : (totL (l.map (·.2))).2 * m ≤ 100 ^ 13 * 100 := Int.mul_le_mul tl2 m1 (by omega) (by decide)
                                          have h2 : ((totL (l.map (·.2))).2 * m).natAbs ≤ 100 ^ 14 := by
                                            have : (100 : Int) ^ 13 * 100 = ((100 ^ 14 : Nat) : Int) := by decide
                                            omega
                                          exact Nat.lt_of_le_of_lt h2 (by decide)
                                        refine ⟨_, rfl, ta, _, 0, .int _, rfl, rfl, SqT.of htm, atI_nat (j := 0) rfl, _, rfl, a0, _, 2, .ref a2, rfl, rfl, SqT.of z1m, atI_nat (j := 2) rfl, a2, _, 1, .int m, rfl, rfl, SqT.of y1m, atI_nat (j := 1) rfl, _, _, rfl, rfl, .inr ⟨by omega, by omega⟩, ?_⟩
                                        refine ⟨_, rfl, a0, _, 2, .ref a2, rfl, rfl, SqT.of z1m, atI_nat (j := 2) rfl, a2, _, 0, .int n, rfl, rfl, SqT.of y1m, atI_nat (j := 0) rfl, _, rfl, ta, _, 1, .int _, rfl, rfl, SqT.of htm, atI_nat (j := 1) rfl, _, _, rfl, rfl, .inl ⟨by omega, by omega⟩, _, _, rfl, rfl, ?_⟩
                                        refine ⟨_, rfl, ta, _, 1, .int _, rfl, rfl, SqT.of htm, atI_nat (j := 1) rfl, _, rfl, a0, _, 2, .ref a2, rfl, rfl, SqT.of z1m, atI_nat (j := 2) rfl, a2, _, 1, .int m, rfl, rfl, SqT.of y1m, atI_nat (j := 1) rfl, _, _, rfl, rfl, .inr ⟨by omega, by omega⟩, ?_⟩
                                        refine ⟨_, _, rfl, bp, bl, fun q nq => ?_⟩
                                        refine ⟨l ++ [((g, x'), (n, m))], q, _, rfl, sim.trans (Same.upd nq), ?_, w1, w2, w3⟩
                                        rw [upd_same, List.map_append]
                                        show _ = some (HO.tup [.int (totL (l.map (·.2) ++ [(n, m)])).1, .int (totL (l.map (·.2) ++ [(n, m)])).2])
                                        rw [tot_snoc]
                                        rfl
                          · exact ifT (by rw [decide_eq_false g1]; rfl) (no (trip_not fun g' x' e1 _ => by cases e1; rw [decide_eq_false g1]; simp) _ si)
                        · exact ifF (decide_eq_false g0') ⟨_, rfl, iteT (no (trip_not fun g' x' e1 _ => by cases e1; rw [decide_eq_false g0']; simp) _ si)⟩
                      · have e : isT "int" d0 = false := by cases d0 <;> first | rfl | exact absurd ⟨_, rfl⟩ i0
                        rw [e]
                        exact iteT (no (trip_not fun g' x' e1 _ => absurd ⟨g', e1⟩ i0) _ si)
              · refine ifT (by
                  have : ¬ (V.int (us.length : Int) = V.int 3) := fun z => l3 (by have := V.int.inj z; omega)
                  rw [decide_eq_false this]; rfl) (no (trip_three (by rw [← ln0]; exact l3)) _ si)
            | _ => exact iteT (no rfl _ si)
          · rintro σ Hi ⟨l, ta, x4, rfl, si, hta, etk, hl, ll⟩
            have eds : ds = l.map trD := by rw [← etk, ln, List.take_length]
            clear etk
            subst eds
            obtain ⟨zs, ezs, el, hz⟩ := zs_of h2
            have nok : ∀ q ∈ l, nameD (.str q.1.2) = true := fun q hq => by
              have h := hl q hq
              have h' : (decide (0 ≤ q.1.1) && decide (q.1.1 < b) && ks.any (strIs q.1.2) && shareD (.tuple [.int q.2.1, .int q.2.2])) = true := h
              rw [Bool.and_eq_true, Bool.and_eq_true] at h'
              exact name_in hnm h'.1.2
            have bds : ∀ y ∈ l.map (·.2), 0 < y.2 ∧ y.2 ≤ 100 := fun y hy => by
              obtain ⟨q, hq, rfl⟩ := List.mem_map.mp hy
              have h := hl q hq
              have h' : (decide (0 ≤ q.1.1) && decide (q.1.1 < b) && ks.any (strIs q.1.2) && shareD (.tuple [.int q.2.1, .int q.2.2])) = true := h
              rw [Bool.and_eq_true] at h'
              obtain ⟨n, m, e, z1, z2, z3⟩ := share_shape h'.2
              injection e with e
              injection e with _ e
              injection e with e _
              injection e with e
              rw [e]; omega
            have all : (l.map trD).all (tripD b ks) = true := List.all_eq_true.mpr fun d hd => by
              obtain ⟨q, hq, rfl⟩ := List.mem_map.mp hd
              exact hl q hq
            have es : (l.map trD).map shareOf = l.map (·.2) := by rw [List.map_map]; rfl
            have er : rowS b ks (.tuple (l.map trD)) = (riseD (l.map trD) && sumOk (l.map (·.2))) := by
              show (decide (1 ≤ (l.map trD).length) && decide ((l.map trD).length ≤ 12) && (l.map trD).all (tripD b ks) && riseD (l.map trD) && sumOk ((l.map trD).map shareOf)) = _
              rw [decide_eq_true (show 1 ≤ (l.map trD).length by omega), decide_eq_true (show (l.map trD).length ≤ 12 by omega), all, es]; rfl
            rw [er] at k
            refine ⟨_, rfl, a, _, rfl, .inr (SqT.of (si _ _ h1)), fun la nla => ?_⟩
            have sla : Same Hi (upd Hi la (.lst xs)) := Same.upd nla
            have hla : (upd Hi la (.lst xs)) la = some (.lst xs) := upd_same
            revert sla hla
            generalize upd Hi la (.lst xs) = H3
            intro sla hla
            have si3 := si.trans sla
            refine ⟨_, rfl, a, zs.map (fun z => (z.1, trK z.2)), rfl, by rw [si3 _ _ h1, ezs, List.map_map]; rfl, fun p hp => ?_, by rw [List.length_map]; have := congrArg List.length ezs; rw [List.length_map] at this; omega, fun sa L nsa sub cov nd => ?_⟩
            · obtain ⟨z, hz', rfl⟩ := List.mem_map.mp hp
              exact ⟨(hz z hz').2.mono si3, by show NestedKey.depth (trK z.2) ≤ 8; unfold trK; simp only [NestedKey.depth, NestedKey.depthAll]; decide⟩
            have ssa : Same H3 (upd H3 sa (SetNO w sa L)) := Same.upd nsa
            have hsa : (upd H3 sa (SetNO w sa L)) sa = some (SetNO w sa L) := upd_same
            revert ssa hsa
            generalize upd H3 sa (SetNO w sa L) = H4
            intro ssa hsa
            have si4 := si3.trans ssa
            have inL : ∀ p ∈ L, ∃ z ∈ zs, p = (z.1, trK z.2) := fun p hp => by
              obtain ⟨z, hz', e⟩ := List.mem_map.mp (sub p hp)
              exact ⟨z, hz', e.symm⟩
            have dL : ∀ p ∈ L, Dx w H (.ref p.1) (trD (kTr p.2)) := fun p hp => by
              obtain ⟨z, hz', rfl⟩ := inL p hp
              exact (hz z hz').1
            refine ⟨sa, L, fun p => trD (kTr p.2), rfl, hsa, fun p hp => ?_, fun p hp => (dL p hp).mono si4, PySem.W.AllAlike.of fun _ _ => alike_trD _ _, PySem.W.Sortable.tuples fun _ => ⟨_, _, rfl⟩, fun p _ => dep_trD _, fun L' sp pm pw nsp => ?_⟩
            · obtain ⟨z, hz', rfl⟩ := inL p hp
              exact ⟨(hz z hz').2.mono si4, by show NestedKey.depth (trK z.2) ≤ 8; unfold trK; simp only [NestedKey.depth, NestedKey.depthAll]; decide⟩
            have ssp : Same H4 (upd H4 sp (.lst (L'.map fun q => V.ref q.1))) := Same.upd nsp
            have hsp : (upd H4 sp (.lst (L'.map fun q => V.ref q.1))) sp = some (.lst (L'.map fun q => V.ref q.1)) := upd_same
            revert ssp hsp
            generalize upd H4 sp (.lst (L'.map fun q => V.ref q.1)) = H5
            intro ssp hsp
            have si5 := si4.trans ssp
            have memL : ∀ p, p ∈ L' ↔ p ∈ L := fun p => pm.mem_iff
            have dm : DxAll w H5 (L'.map fun q => V.ref q.1) ((L'.map fun p : Addr × NestedKey => kTr p.2).map trD) := by
              have := dxall_mem (w := w) (G := H5) (zs := L'.map fun p => (V.ref p.1, trD (kTr p.2))) fun z hz' => by
                obtain ⟨p, hp, rfl⟩ := List.mem_map.mp hz'
                exact (dL p ((memL p).mp hp)).mono si5
              rw [List.map_map, List.map_map] at this
              rw [List.map_map]; exact this
            have mIn : ∀ q, q ∈ (L'.map fun p : Addr × NestedKey => kTr p.2) ↔ q ∈ l := fun q => by
              constructor
              · intro h
                obtain ⟨p, hp, rfl⟩ := List.mem_map.mp h
                obtain ⟨z, hz', rfl⟩ := inL p ((memL p).mp hp)
                rw [el]; exact List.mem_map.mpr ⟨z, hz', rfl⟩
              · intro h
                rw [el] at h
                obtain ⟨z, hz', rfl⟩ := List.mem_map.mp h
                obtain ⟨p, hp, e⟩ := List.mem_map.mp (cov (z.1, trK z.2) (List.mem_map.mpr ⟨z, hz', rfl⟩))
                exact List.mem_map.mpr ⟨p, (memL p).mpr hp, by rw [e]; rfl⟩
            have mnd : (L'.map fun p : Addr × NestedKey => kTr p.2).Nodup := by
              have n1 : (L'.map (·.2)).Nodup := (pm.map (·.2)).nodup_iff.mpr nd
              have e : L'.map (·.2) = (L'.map fun p : Addr × NestedKey => kTr p.2).map trK := by
                rw [List.map_map]
                refine List.map_congr_left fun p hp => ?_
                obtain ⟨z, hz', rfl⟩ := inL p ((memL p).mp hp)
                rfl
              rw [e] at n1
              exact nodup_of_map n1
            have srt : (L'.map fun p : Addr × NestedKey => kTr p.2).Pairwise fun p q => PySem.W.dataLt (trD q) (trD p) = false := by
              refine List.pairwise_map.mpr (pw.imp fun {p q} h => ?_)
              rw [PySem.W.dataLe_eq] at h
              simpa using h
            have eq5 := sorted_is mnd mIn srt
            refine ⟨.list (l.map trD), .list ((L'.map fun p : Addr × NestedKey => kTr p.2).map trD), .lst (ssp _ _ (ssa _ _ hla)) (h2.mono si5), .lst hsp dm, shp_trs l fun q hq => strOk_nameD (nok q hq), shp_trs _ fun q hq => strOk_nameD (nok q ((mIn q).mp hq)), ?_⟩
            rw [eq5]
            refine ⟨_, rfl, ?_⟩
            cases hri : riseD (l.map trD) with
            | false =>
              rw [hri] at k
              exact ifF rfl (k H5 si5)
            | true =>
              rw [hri] at k
              have hta5 := ssp _ _ (ssa _ _ (sla _ _ hta))
              refine ifT rfl ⟨_, rfl, (by show 2 ≤ sizeLine; decide), fun tp H6 s6 h6 => ?_⟩
              refine ⟨_, _, .tup (s6 _ _ hta5) (.cons (.int _) (.cons (.int _) .nil)), .tup h6 (.cons (.int _) (.cons (.int _) .nil)), shp2 _ _, shp2 _ _, ?_⟩
              rw [one_eqv, tot_sum bds]
              exact k H6 (si5.trans s6)
        · refine ifT (by rw [decide_eq_false (show ¬ (xs.length : Int) < 13 by omega)]; rfl) ?_
          have := k H (Same.refl H)
          have e : rowS b ks (.tuple ds) = false := by
            show (_ && decide (ds.length ≤ 12) && _ && _ && _) = false
            rw [decide_eq_false (show ¬ ds.length ≤ 12 by omega)]; simp
          rw [e] at this; exact this
      · refine ifF (decide_eq_false (by omega)) ⟨_, rfl, iteT ?_⟩
        have := k H (Same.refl H)
        have e : rowS b ks (.tuple ds) = false := by
          show (decide (1 ≤ ds.length) && _ && _ && _ && _) = false
          rw [decide_eq_false (show ¬ 1 ≤ ds.length by omega)]; simp
        rw [e] at this; exact this
    | _ => exact iteT (k H (Same.refl H))
end
end My

set_option linter.all false
namespace My
open PySem PySem.Spec PyProof.Rows L2
/-! ### the law's look at a shared book -/
abbrev sDue : Stmt := topS 30
section
variable {X : Cx}
def tDGetF (w : World) (td ty : TE) : TE := fun σ H Q => td σ H fun x H1 => ty σ H1 fun y H2 => ∃ (d : Addr) (kvs : List Kvv) (k : NestedKey) (i v : V), x = .ref d ∧ DF w H2 d kvs ∧ KeyV H2 k y ∧ k.depth ≤ 8 ∧ (k, i, v) ∈ kvs ∧ Q v H2
theorem pe_dgetF {o i : Expr} {pos : Pos} {td ty : TE} (hu : X.A.units + 10 < cLine) (ho : PE X o td) (hi : PE X i ty) (hs : NoSl i) : PE X (.Subscript o i pos) (tDGetF X.w td ty) := by
  refine ⟨fun pins s σ H Q I h => ?_⟩
  refine subD_of PySem.F.slot_dict_getitem.lookup hs (thn (ho.run pins s σ H _ I h) fun u s1 ⟨x, H1, I1, rx, q1⟩ => thn (hi.run pins s1 σ H1 _ I1 q1) fun iv s2 ⟨y, H2, I2, ry, d, kvs, k, i, v, ex, hdf, hk, h8, hm, q2⟩ => ?_)
  subst ex
  obtain rfl : u = Value.ref d := rx
  obtain ⟨od, _, es, ep, _, hob, hx, hdt, hsy, hE⟩ := hdf.raw I2.hok
  have ty' : s2.TypeIs (.ref d) "dict" := ⟨od, hob, hx.1⟩
  refine ⟨ty', ?_⟩
  unfold getItem
  try with_reducible refine wpAny_holding ?_
  refine wpAny_bind (wpAny_sequenceKey ty' (by decide) (wpAny_bind (wpAny_callSpecial?_slot (name := Str.ofString "__getitem__") ty' slot_dict_getitem (wpAny_call_entry slot_dict_getitem ty' entry_dict_getitem ?_ (args_dict_getitem _ _)))))
  show wpAny _ _ (dictGet d iv >>= _) _ _ s2
  refine wpAny_bind (dictGet_any (by show X.A.units + 1 + 8 < cLine; omega) (hk.is I2 ry) h8 hob hdt (hE.ks I2) (fun n => absurd (List.mem_map.mpr ⟨_, hm, rfl⟩) n) fun j e hj he => ?_)
  obtain ⟨z, hz, ev⟩ := hE.back he
  rw [List.getElem?_map, hz] at hj
  have ezk : z.1 = k := Option.some.inj hj
  have ez : z = (k, i, v) := by
    obtain ⟨j2, hj2⟩ := List.mem_iff_getElem?.mp hm
    have a1 : (kvs.map (·.1))[j]? = some k := by rw [List.getElem?_map, hz, ← ezk]; rfl
    have a2 : (kvs.map (·.1))[j2]? = some k := by rw [List.getElem?_map, hj2]; rfl
    have jj : j = j2 := (List.getElem?_inj (List.getElem?_eq_some_iff.mp a1).1 hE.nod).mp (a1.trans a2.symm)
    rw [jj, hj2] at hz
    exact (Option.some.inj hz).symm
  subst ez
  exact wpAny_pure ⟨e.val, rfl, wpAny_pure ⟨v, H2, I2.tok _, ev.2.2.2.2, q2⟩⟩
end
theorem empty_all {α : Type} (l : List α) (f : Nat → Bool) (v : Nat → V) (p : α → Bool) (h : ∀ i a, l[i]? = some a → f i = !p a) : (((List.range l.length).filter f).map v).isEmpty = l.all p := by
  apply Bool.eq_iff_iff.mpr
  rw [List.isEmpty_iff, filt_nil, List.all_eq_true]
  constructor
  · intro g a ha
    obtain ⟨i, hi, e⟩ := List.mem_iff_getElem.mp ha
    have h1 := h i a (by rw [List.getElem?_eq_getElem hi, e])
    rw [g i hi] at h1
    simpa using h1.symm
  · intro g i hi
    rw [h i l[i] (List.getElem?_eq_getElem hi), g _ (List.getElem_mem hi)]; rfl
theorem zip_at {w : World} {H : Hp} {kvs : List Kvv} {ds : List (PyData × PyData)} (hk : DxAll w H (kvs.map fun x => x.2.1) (ds.map (·.1))) (hv : DxAll w H (kvs.map fun x => x.2.2) (ds.map (·.2))) {i : Nat} {x : Kvv} (e : kvs[i]? = some x) : ∃ q, ds[i]? = some q ∧ Dx w H x.2.1 q.1 ∧ Dx w H x.2.2 q.2 := by
  obtain ⟨d1, g1, q1⟩ := hk.get (i := i) (v := x.2.1) (by rw [List.getElem?_map, e]; rfl)
  obtain ⟨d2, g2, q2⟩ := hv.get (i := i) (v := x.2.2) (by rw [List.getElem?_map, e]; rfl)
  rw [List.getElem?_map] at g1 g2
  obtain ⟨q, gq, rfl⟩ := Option.map_eq_some_iff.mp g1
  rw [gq] at g2
  cases g2
  exact ⟨q, gq, q1, q2⟩
def spDue (w : World) : Sp := fun vs H Q _ => ∃ (v : V) (d : PyData), vs = [v] ∧ Dx w H v d ∧ d.shown.length ≤ 16770000 ∧ ∀ H', Same H H' → Q (.bl (isSharedD d)) H'
section
variable {P : Program} {w : World} {K : PySem.W.Frag} {mg : Str → Option Value} {base : Heap}
theorem scDue : FnScope ["thing", "name"] ["thing"] (defScope sDue) := ⟨rfl, rfl, rfl, by decide +kernel, rfl, by decide +kernel, by decide +kernel⟩
theorem ok_due {f fLw fNa fDr : Addr} {fd fdLw fdNa fdDr : FuncData} (F : Fun K "_law_is_due" "_law_is_due" sDue f fd) (T : TxP mg)
    (FLw : Fun K "_law_is_whole" "_law_is_whole" sLWh fLw fdLw) (bLw : Binds K fdLw ["thing"] []) (gLw : mg "_law_is_whole" = some (.ref fLw))
    (FNa : Fun K "_law_is_name" "_law_is_name" sLNm fNa fdNa) (bNa : Binds K fdNa ["thing"] []) (gNa : mg "_law_is_name" = some (.ref fNa))
    (FDr : Fun K "_law_is_due_row" "_law_is_due_row" sDueR fDr fdDr) (GDr : FnOk P w K mg base CX0 3 fDr fdDr ["base", "rows", "row"] (spDueR w)) (bDr : Binds K fdDr ["base", "rows", "row"] []) (gDr : mg "_law_is_due_row" = some (.ref fDr)) :
    FnOk P w K mg base CX0 4 f fd ["thing"] (spDue w) := by
  have GLw : FnOk P w K mg base CX0 1 fLw fdLw ["thing"] (spWholeX w) := ok_lwh FLw T
  have GNa : FnOk P w K mg base CX0 1 fNa fdNa ["thing"] (spNameL w) := ok_lnm FNa T
  refine F.ok scDue (fun vs H Q E h => ?_) (fun cdv A outer s H vs Q E hr h => ?_)
  · obtain ⟨v, d, rfl, _⟩ := h
    rfl
  · obtain ⟨v, d, rfl, dv, hsh, k⟩ := h
    have hr1 : Room 1 _ := hr.mono (by decide)
    have hu10 := Nat.lt_trans (Nat.add_lt_add_left (show 10 < 64 by decide) _) hr.units
    refine ⟨_, (pss_cons (ps_if (PW.pt (pw_or (pt_not (pt_val (pe_callB call_isiX (by rfl) T.isi boot_isinstance (pa_cons (pv 0) (pa_cons (pe_bltn (v := .ty "tuple") (by rfl) T.tuple boot_tuple rfl) pa_nil))))) (pw_or (pt_cmpR op_ne (pe_callB call_len_seq (by rfl) T.len PySem.boot_len (pa_cons (pv 0) pa_nil)) pe_int (nomark _)) (pw_or (pt_not (pt_val (pe_call GLw hr1 (by rfl) gLw FLw.kp bLw .nil pass0 (pa_cons (pe_ix (show IxR _ (rIxT K) from ix_tup) (pv 0) pe_int (fun _ _ => rfl)) pa_nil)))) (pw_or1 (pt_not (pt_chain op_le op_le pe_int (pe_ix (show IxR _ (rIxT K) from ix_tup) (pv 0) pe_int (fun _ _ => rfl)) pe_int))))))) (pss_one (ps_ret pe_bl)) pss_nil)
      (pss_cons (ps_if (PW.pt (pw_or (pt_not (pt_val (pe_callB call_isiX (by rfl) T.isi boot_isinstance (pa_cons (pe_ix (show IxR _ (rIxT K) from ix_tup) (pv 0) pe_int (fun _ _ => rfl)) (pa_cons (pe_bltn (v := .ty "dict") (by rfl) T.dict boot_dict rfl) pa_nil))))) (pw_or1 (pt_not (pt_chain op_lt op_lt pe_int (pe_callB call_lenF (by rfl) T.len PySem.boot_len (pa_cons (pe_ix (show IxR _ (rIxT K) from ix_tup) (pv 0) pe_int (fun _ _ => rfl)) pa_nil)) pe_int))))) (pss_one (ps_ret pe_bl)) pss_nil)
      (pss_cons (ps_if (pt_cmpR (op_neNil hr.units) (pe_lc (own := [("name", 1)]) (g := gName 1) rfl scDue.nd (pi_keysF (pe_ix (show IxR _ (rIxT K) from ix_tup) (pv 0) pe_int (fun _ _ => rfl))) (blkOk_by (N := ["thing", "name"]) (sc := defScope sDue) (by decide +kernel)) (fun _ _ _ _ _ => (pg_name (i := 1) scDue.nd rfl (Or.inl rfl))) (fun _ _ _ _ _ => (pts_one (pt_not (pt_val (pe_call GNa hr1 (by rfl) gNa FNa.kp bNa .nil pass0 (pa_cons (pv 1) pa_nil)))))) (fun _ _ _ _ _ => (pv 1))) (pe_lst pa_nil) (nomark _)) (pss_one (ps_ret pe_bl)) pss_nil)
      (pss_one (ps_ret (pe_cmpR (op_eqNil hr.units) (pe_lc (own := [("name", 1)]) (g := gName 1) rfl scDue.nd (pi_keysF (pe_ix (show IxR _ (rIxT K) from ix_tup) (pv 0) pe_int (fun _ _ => rfl))) (blkOk_by (N := ["thing", "name"]) (sc := defScope sDue) (by decide +kernel)) (fun _ _ _ _ _ => (pg_name (i := 1) scDue.nd rfl (Or.inl rfl))) (fun _ _ _ _ _ => (pts_one (pt_not (pt_val (pe_call GDr hr (by rfl) gDr FDr.kp bDr .nil pass0 (pa_cons (pe_ix (show IxR _ (rIxT K) from ix_tup) (pv 0) pe_int (fun _ _ => rfl)) (pa_cons (pe_ix (show IxR _ (rIxT K) from ix_tup) (pv 0) pe_int (fun _ _ => rfl)) (pa_cons (show PE _ _ (tDGetF w (tOp (rIxT K) (tVar 0) (tC (.int 1))) (tVar 1)) from pe_dgetF hu10 (pe_ix (show IxR _ (rIxT K) from ix_tup) (pv 0) pe_int (fun _ _ => rfl)) (pv 1) (fun _ _ => rfl)) pa_nil)))))))) (fun _ _ _ _ _ => (pv 1))) (pe_lst pa_nil) (nomark _))))))), ?_⟩
    refine ⟨_, rfl, _, _, _, _, rfl, dv, kit_tuple _, _, rfl, ?_⟩
    cases dv with
    | tup h1 h2 =>
      rename_i a xs ds
      refine iteF ⟨_, rfl, a, _, rfl, .inr (SqT.of h1), rfl, _, rfl, ?_⟩
      have ln := h2.len
      by_cases l2 : xs.length = 2
      · refine ifF (by simp [l2]) ?_
        obtain ⟨d0, d1, rfl⟩ : ∃ d0 d1, ds = [d0, d1] := by
          match ds, (ln.symm.trans l2 : ds.length = 2) with
          | [d0, d1], _ => exact ⟨d0, d1, rfl⟩
        have nono : namedD (.tuple [d0, d1]) = false → ∀ H', Same H H' → Q (.bl false) H' := fun z H' s' => by
          have := k H' s'
          rw [show isSharedD (.tuple [d0, d1]) = false by unfold isSharedD; rw [z]; rfl] at this
          exact this
        cases h2 with
        | cons q0 r0 =>
          cases r0 with
          | cons q1 r1 =>
            cases r1
            rename_i v0 v1
            have s0 := Same.refl H
            refine ⟨_, rfl, a, _, 0, v0, rfl, rfl, SqT.of h1, atI_nat (j := 0) rfl, v0, d0, rfl, q0, _, rfl, ?_⟩
            by_cases i0 : ∃ g, d0 = .int g
            · obtain ⟨b, rfl⟩ := i0
              cases q0
              refine iteF ⟨_, rfl, a, _, 0, .int b, rfl, rfl, SqT.of h1, atI_nat (j := 0) rfl, _, _, rfl, rfl, _, rfl, ?_⟩
              have bno : ¬ (2 ≤ b ∧ b ≤ 10) → namedD (.tuple [.int b, d1]) = false := fun z => by
                rw [named_two]
                have : baseD (.int b) = false := by
                  show (decide (2 ≤ b) && decide (b ≤ 10)) = false
                  by_cases c : 2 ≤ b
                  · rw [decide_eq_false (fun y => z ⟨c, y⟩), Bool.and_false]
                  · rw [decide_eq_false c]; rfl
                rw [this]; rfl
              by_cases b2 : 2 ≤ b
              · refine ifT (decide_eq_true b2) ⟨_, _, rfl, rfl, _, rfl, ?_⟩
                by_cases b10 : b ≤ 10
                · refine ifF (by rw [decide_eq_true b10]; rfl) ?_
                  have hb : baseD (.int b) = true := by
                    show (decide (2 ≤ b) && decide (b ≤ 10)) = true
                    rw [decide_eq_true b2, decide_eq_true b10]; rfl
                  refine ⟨_, rfl, a, _, 1, v1, rfl, rfl, SqT.of h1, atI_nat (j := 1) rfl, _, _, _, _, rfl, q1, kit_dictX _, _, rfl, ?_⟩
                  cases q1 with
                  | dct hdf hk hv =>
                    rename_i rr kvs es
                    have e0 := hk.len
                    rw [List.length_map, List.length_map] at e0
                    have nm : namedD (.tuple [.int b, .dict es]) = (decide (1 ≤ kvs.length) && decide (kvs.length ≤ 6) && (es.map (·.1)).all nameD) := by
                      rw [named_two, hb, e0]; rfl
                    refine iteF ⟨_, rfl, a, _, 1, .ref rr, rfl, rfl, SqT.of h1, atI_nat (j := 1) rfl, rr, kvs, rfl, hdf, _, _, rfl, rfl, _, rfl, ?_⟩
                    by_cases c1 : 0 < kvs.length
                    · refine ifT (decide_eq_true (by omega)) ⟨_, _, rfl, rfl, _, rfl, ?_⟩
                      by_cases c6 : kvs.length < 7
                      · refine ifF (by rw [decide_eq_true (show (kvs.length : Int) < 7 by omega)]; rfl) ?_
                        rw [decide_eq_true (show 1 ≤ kvs.length by omega), decide_eq_true (show kvs.length ≤ 6 by omega)] at nm
                        have dsh : (PyData.dict es).shown.length ≤ 16770000 := Nat.le_trans (in_tuple (by simp)) hsh
                        refine ⟨_, rfl, a, _, 1, .ref rr, rfl, rfl, SqT.of h1, atI_nat (j := 1) rfl, rr, kvs, rfl, hdf, fun od u hod D nD => ?_⟩
                        refine lc_gen (walk_keysF (w := w) (d := rr) (od := od) (kvs := kvs)) (fun i => !((es.map (·.1))[i]?).elim false nameD) (fun i => (kvs[i]?.map (·.2.1)).getD .non) nD (by rw [sizeLine_eq]; omega) (fun Ha sa => ⟨⟨u, sa _ _ hod⟩, hdf.mono sa⟩) (fun i y Ha Hb hi sa yy Q2 R q2 r2 => ?_) fun Ha sa hD => ?_
                        · obtain ⟨rfl, kk, vv, ey⟩ := yy
                          obtain ⟨q, gq, x1, x2⟩ := zip_at hk hv ey
                          have ge : ((es.map (·.1))[i]?).elim false nameD = nameD q.1 := by rw [List.getElem?_map, gq]; rfl
                          rw [ge] at q2 r2
                          rw [show (kvs[i]?.map (·.2.1)).getD .non = y by rw [ey]; rfl] at q2
                          refine ⟨rfl, ?_⟩
                          refine ⟨_, rfl, y, q.1, rfl, x1.mono sa, tx_of (Nat.le_trans (in_dict (List.mem_of_getElem? gq)).1 dsh), fun H4 s4 => ?_⟩
                          refine ⟨_, rfl, ?_⟩
                          cases hn : nameD q.1 with
                          | true => exact ifF rfl (r2 (by rw [hn]; rfl) H4 s4)
                          | false => exact ifT rfl ⟨_, rfl, q2 (by rw [hn]; rfl) H4 s4⟩
                        · refine ⟨by show 0 ≤ sizeLine; exact Nat.zero_le _, fun L nL => ?_⟩
                          have neL : D ≠ L := ne_of_none hD nL
                          have sL : Same H (upd Ha L (.lst [])) := sa.trans (Same.upd nL)
                          have hL : (upd Ha L (.lst [])) L = some (.lst []) := upd_same
                          have hD2 := (Same.upd (o := .lst []) nL) _ _ hD
                          refine ⟨_, _, _, rfl, rfl, SqL.of hD2, SqL.of hL, _, rfl, ?_⟩
                          have e1 : (((List.range kvs.length).filter fun i => !((es.map (·.1))[i]?).elim false nameD).map fun i => (kvs[i]?.map (·.2.1)).getD V.non).isEmpty = (es.map (·.1)).all nameD := by
                            have := empty_all (es.map (·.1)) (fun i => !((es.map (·.1))[i]?).elim false nameD) (fun i => (kvs[i]?.map (·.2.1)).getD V.non) nameD fun i a e => by rw [e]; rfl
                            rw [List.length_map, ← e0] at this
                            exact this
                          rw [e1]
                          generalize upd Ha L (.lst []) = H5 at sL hL hD2
                          cases hnm : (es.map (·.1)).all nameD with
                          | false =>
                            rw [hnm] at nm
                            exact ifT rfl (nono (by rw [nm]; rfl) H5 sL)
                          | true =>
                            rw [hnm] at nm
                            have es0 : isSharedD (.tuple [.int b, .dict es]) = (es.map (·.2)).all (rowS b (es.map (·.1))) := by unfold isSharedD; rw [nm]; rfl
                            rw [es0] at k
                            refine ifF rfl ?_
                            have hk5 := hk.mono sL
                            have hv5 := hv.mono sL
                            have hdf5 := hdf.mono sL
                            have h15 := sL _ _ h1
                            refine ⟨_, rfl, a, _, 1, .ref rr, rfl, rfl, SqT.of h15, atI_nat (j := 1) rfl, rr, kvs, rfl, hdf5, fun od u hod D nD => ?_⟩
                            refine lc_gen (walk_keysF (w := w) (d := rr) (od := od) (kvs := kvs)) (fun i => !((es.map (·.2))[i]?).elim false (rowS b (es.map (·.1)))) (fun i => (kvs[i]?.map (·.2.1)).getD .non) nD (by rw [sizeLine_eq]; omega) (fun Ha sa => ⟨⟨u, sa _ _ hod⟩, hdf5.mono sa⟩) (fun i y Ha Hb hi sa yy Q2 R q2 r2 => ?_) fun Ha sa hD => ?_
                            · obtain ⟨rfl, kk, vv, ey⟩ := yy
                              obtain ⟨q, gq, x1, x2⟩ := zip_at hk5 hv5 ey
                              have ge : ((es.map (·.2))[i]?).elim false (rowS b (es.map (·.1))) = rowS b (es.map (·.1)) q.2 := by rw [List.getElem?_map, gq]; rfl
                              rw [ge] at q2 r2
                              rw [show (kvs[i]?.map (·.2.1)).getD .non = y by rw [ey]; rfl] at q2
                              refine ⟨rfl, ?_⟩
                              have ha := sa _ _ h15
                              have hky := (hdf5.mono sa).keyv _ (List.mem_of_getElem? ey)
                              have nmq : nameD q.1 = true := List.all_eq_true.mp hnm q.1 (List.mem_map.mpr ⟨q, List.mem_of_getElem? gq, rfl⟩)
                              have d8 : kk.depth ≤ 8 := by
                                obtain ⟨x, ex⟩ : ∃ x, q.1 = .str x := by
                                  cases hq : q.1 with
                                  | str x => exact ⟨x, rfl⟩
                                  | _ => rw [hq] at nmq; cases nmq
                                rw [ex] at x1
                                cases x1
                                cases hky
                                show 0 ≤ 8
                                decide
                              refine ⟨_, rfl, a, _, 0, .int b, rfl, rfl, SqT.of ha, atI_nat (j := 0) rfl, _, rfl, a, _, 1, .ref rr, rfl, rfl, SqT.of ha, atI_nat (j := 1) rfl, _, rfl, a, _, 1, .ref rr, rfl, rfl, SqT.of ha, atI_nat (j := 1) rfl, _, rfl, rr, kvs, kk, y, vv, rfl, hdf5.mono sa, hky, d8, List.mem_of_getElem? ey, ?_⟩
                              refine ⟨b, rr, kvs, es.map (·.1), vv, q.2, rfl, hdf5.mono sa, hk5.mono sa, hnm, x2.mono sa, Nat.le_trans (in_dict (List.mem_of_getElem? gq)).2 dsh, fun H6 s6 => ?_⟩
                              refine ⟨_, rfl, ?_⟩
                              cases hn : rowS b (es.map (·.1)) q.2 with
                              | true => exact ifF rfl (r2 (by rw [hn]; rfl) H6 s6)
                              | false => exact ifT rfl ⟨_, rfl, q2 (by rw [hn]; rfl) H6 s6⟩
                            · refine ⟨by show 0 ≤ sizeLine; exact Nat.zero_le _, fun L nL => ?_⟩
                              have hD2 := (Same.upd (o := .lst []) nL) _ _ hD
                              refine ⟨_, _, _, rfl, rfl, SqL.of hD2, SqL.of upd_same, ?_⟩
                              have e1 : (((List.range kvs.length).filter fun i => !((es.map (·.2))[i]?).elim false (rowS b (es.map (·.1)))).map fun i => (kvs[i]?.map (·.2.1)).getD V.non).isEmpty = (es.map (·.2)).all (rowS b (es.map (·.1))) := by
                                have := empty_all (es.map (·.2)) (fun i => !((es.map (·.2))[i]?).elim false (rowS b (es.map (·.1)))) (fun i => (kvs[i]?.map (·.2.1)).getD V.non) (rowS b (es.map (·.1))) fun i a e => by rw [e]; rfl
                                rw [List.length_map, ← e0] at this
                                exact this
                              rw [e1]
                              exact k _ (sL.trans (sa.trans (Same.upd nL)))
                      · refine ifT (by rw [decide_eq_false (show ¬ (kvs.length : Int) < 7 by omega)]; rfl) (nono ?_ H s0)
                        rw [nm, decide_eq_false (show ¬ kvs.length ≤ 6 by omega)]; simp
                    · refine ifF (decide_eq_false (by omega)) ⟨_, rfl, iteT (nono ?_ H s0)⟩
                      rw [nm, decide_eq_false (show ¬ 1 ≤ kvs.length by omega)]; simp
                  | _ => exact iteT (nono (by rw [named_two]; simp) H s0)
                · exact ifT (by rw [decide_eq_false b10]; rfl) (nono (bno fun z => b10 z.2) H s0)
              · exact ifF (decide_eq_false b2) ⟨_, rfl, iteT (nono (bno fun z => b2 z.1) H s0)⟩
            · have e : isT "int" d0 = false := by cases d0 <;> first | rfl | exact absurd ⟨_, rfl⟩ i0
              rw [e]
              refine iteT (nono ?_ H s0)
              rw [named_two]
              have : baseD d0 = false := by cases d0 <;> first | rfl | exact absurd ⟨_, rfl⟩ i0
              rw [this]; rfl
      · refine ifT (by
          have : ¬ (V.int (xs.length : Int) = V.int 2) := fun z => l2 (by have := V.int.inj z; omega)
          rw [decide_eq_false this]; rfl) ?_
        have e : isSharedD (.tuple ds) = false := by
          unfold isSharedD
          have : namedD (.tuple ds) = false := by
            match ds, ln with
            | [], _ => simp only [namedD]
            | [_], _ => simp only [namedD]
            | [_, _], e => exact absurd e l2
            | _ :: _ :: _ :: _, _ => simp only [namedD]
          rw [this]; rfl
        rw [← e]; exact k H (Same.refl H)
    | _ => exact iteT (k H (Same.refl H))
end
end My

set_option linter.all false
namespace My
open PySem PySem.Spec PyProof.Rows L2
/-! ### isinstance(x, (list, dict)) -/
def isLD : PyData → Bool
  | .list _ => true
  | .dict _ => true
  | _ => false
theorem kit_two {K : PySem.W.Frag} {t a b : String} {x y : Bool} (h1 : kitB t a = some x) (h2 : kitB t b = some y) : PySem.W.kitAny K (.type t) [.type a, .type b] = some (x || y) :=
  kitAny_cons (kit_ty h1) (fun e => by
    subst e
    exact kitAny_cons (kit_ty h2) (fun e => by subst e; exact kitAny_nil) (fun e => by subst e; rfl)) (fun e => by subst e; rfl)
theorem kit_LD {K : PySem.W.Frag} : ∀ d : PyData, PySem.W.kitAny K (.type (tyN d)) [.type "list", .type "dict"] = some (isLD d)
  | .none => kit_two (x := false) (y := false) (by decide +kernel) (by decide +kernel)
  | .bool _ => kit_two (t := "bool") (x := false) (y := false) (by decide +kernel) (by decide +kernel)
  | .int _ => kit_two (t := "int") (x := false) (y := false) (by decide +kernel) (by decide +kernel)
  | .str _ => kit_two (t := "str") (x := false) (y := false) (by decide +kernel) (by decide +kernel)
  | .list _ => kit_two (t := "list") (x := true) (y := false) (by decide +kernel) (by decide +kernel)
  | .tuple _ => kit_two (t := "tuple") (x := false) (y := false) (by decide +kernel) (by decide +kernel)
  | .dict _ => kit_two (t := "dict") (x := false) (y := true) (by decide +kernel) (by decide +kernel)
section
variable {X : Cx}
def rIsLD (w : World) : List V → Hp → VK → Prop := fun xs H Q => ∃ (v : V) (d : PyData) (tp : Addr), xs = [v, .ref tp] ∧ H tp = some (.tup [.ty "list", .ty "dict"]) ∧ Dx w H v d ∧ Q (.bl (isLD d)) H
theorem call_isLD : CallR X (.builtin "isinstance") (rIsLD X.w) := by
  intro pins s σ H xs us Q I r h
  obtain ⟨v, d, tp, rfl, hT, h, q⟩ := h
  by_cases c : ∃ ds, d = .dict ds
  · obtain ⟨ds, rfl⟩ := c
    cases h with
    | dct hg _ _ =>
      obtain ⟨u, u', rfl, ru, ru'⟩ := vals2 r
      cases (show u = Value.ref _ from ru)
      cases (show u' = Value.ref tp from ru')
      obtain ⟨od, _, es, ep, _, ho, hx, _⟩ := hg.raw I.hok
      obtain ⟨_, its, rv, o, g1, g2, n, g3⟩ := I.hok _ _ hT
      have ei : its = [Value.type "list", Value.type "dict"] := ClsV.all (.cons (.ty "list") (.cons (.ty "dict") .nil)) rv
      subst ei
      obtain ⟨oc, od2, dt, sl⟩ := o
      dsimp only at g2 g3
      subst g2 g3
      exact PySem.W.kia_tup (PySem.W.kitx_dict) I.kIn ⟨od, ho, hx.1⟩ g1 (kit_LD (.dict ds)) (fun z => nomatch z) fun tk => ⟨.bl _, H, I.tok tk, rfl, q⟩
  · exact call_isiT pins s σ H _ us Q I r ⟨v, tp, _, .type (tyN d), _, _, rfl, hT, .cons (.ty "list") (.cons (.ty "dict") .nil), h.tyx fun ds e => c ⟨ds, e⟩, kit_LD d, q⟩
/-! ### list(d.items()), d standing still or not -/
def tItemsR (te : TE) : TE := fun σ H Q => te σ H fun x H1 => ∃ (d : Addr) (kvs : List (Key × V)), x = .ref d ∧ Rd H1 d (.dK kvs) ∧
  ∀ (H2 : Hp) (l : Addr) (ts : List Addr), Same H1 H2 → H1 l = none → H2 l = some (.lst (ts.map V.ref)) → Paired (fun (a : Addr) (kv : Key × V) => H2 a = some (.tup [kV kv.1, kv.2])) ts kvs → Q (.ref l) H2
theorem pe_itemsR {e : Expr} {te : TE} {p a c pos : Pos} (calm : X.calm = true) (he : PE X e te) (gl : Gl X "list") (nm : X.mg "list" = none) (bt : bootBuiltins "list" = some (.type "list"))
    (h1 : attributeBase e "items" X.env (eval e X.env) = eval e X.env := by rfl) (h2 : (a.endLine == c.line) = true := by rfl)
    (h3 : starEach [.Call (.Attribute e "items" a) [] [] c] X.env = (false, eval (.Call (.Attribute e "items" a) [] [] c) X.env) :: starEach [] X.env := by rfl) :
    PE X (.Call (.Name "list" p) [.Call (.Attribute e "items" a) [] [] c] [] pos) (tItemsR te) := by
  refine ⟨fun pins s σ H Q I w => wpAny_Call_Name_kw (ld_blt I gl nm bt (PyProof.Rows.callWith_type1 ?_ h3 rfl))⟩
  rw [h3]
  refine Calls.spliced_cons (wpAny_Call_method (T := "dict") (id := "dict.items") h1 rfl h2 F.plainAttrs_dict F.slot_dict_items F.type_dict_items (thn (he.run pins s σ H _ I w) fun v s' w => ?_))
  obtain ⟨x, H1, J, r, d, kvs, rfl, rd, q⟩ := w
  cases (show v = Value.ref d from r)
  obtain ⟨z, m, vs, kv, dd⟩ := dk_rd J.hok rd
  obtain ⟨ep, at1⟩ := dd.dictAt
  have J1 : Inv X pins σ H1 { s' with heap := s'.heap.push { cls := .type "dict_items", data := .fields #[.ref d] } } := J.kept (t' := s'.toks) fun _ _ g => Heap.get?_push_of_some _ g
  refine ⟨dd.typeIs, dd.mapOf.noDict, ?_⟩
  refine method_meetsIn F.slot_dict_items F.entry_dict_items rfl (PySem.evalArgs_none ⟨rfl, dd.typeIs, F.args_dict_items_1 _, _, meets_dict_items (mixKind X.prog X.w) d m, ⟨vs, dd⟩, Calls.spliced_nil ?_⟩)
  refine PySem.W.kdx_call (knd := mixKind X.prog X.w) (kvs := vs) (ep := ep) (J.ok.hd calm) ⟨_, Heap.get?_push_size _ rfl, rfl, rfl⟩ (at1.push _) (by rw [← kv.length]; exact z) fun h' tk acc n as g1 g2 g3 g4 g5 => ?_
  obtain ⟨H2, k1, k2, _, _, k5, k6, J2⟩ := LiI.items_laid (tk := tk) J1 z kv g1 g2 g3 g4 g5
  exact ⟨.ref _, H2, J2, rfl, q H2 _ as k1 k2 k5 k6⟩
end
end My

set_option linter.all false
namespace My
open PySem PySem.Spec PyProof.Rows L2
/-! ### a shared book whose dict stands still; dicts in the making -/

def a9 : Str := ofL (List.replicate 9 (tl "a")).flatten
theorem dx_a9 {X : Cx} {pos p q : Pos} {a b : Nat} : PE X (.BinOp (.Constant (.str "a") a p) .Mult (.Constant (.int 9) b q) pos) (tDx X.w (.str a9)) :=
  dx_of (pe_op op_mulS pe_str pe_int) fun _ _ _ ⟨_, e, k⟩ => ⟨"a", 9, rfl, rfl, by decide, by decide, by decide, k _ _ _ (Nw.refl e) (.str _)⟩
theorem dx_at {w : World} {G : Hp} {vs : List V} {ds : List PyData} (h : DxAll w G vs ds) {i : Int} (h0 : 0 ≤ i) (h1 : i < ds.length) : ∃ v d, atI vs i = some v ∧ d ∈ ds ∧ Dx w G v d := by
  obtain ⟨j, rfl⟩ : ∃ j : Nat, i = (j : Int) := ⟨i.toNat, by omega⟩
  have hj : j < vs.length := by have := h.len; omega
  obtain ⟨d, e, x⟩ := h.get (List.getElem?_eq_getElem hj)
  exact ⟨vs[j], d, atI_nat (List.getElem?_eq_getElem hj), List.mem_of_getElem? e, x⟩
theorem strOk_let {x : Str} (h : Lets (tl x)) : PyData.strOk x = true := by
  unfold PyData.strOk
  rw [← Array.all_toList]
  exact List.all_eq_true.mpr fun c hc => decide_eq_true (by have := h c hc; omega)
theorem strOk_name {x : Str} (h : NameOk x) : StrOk (.str x) := fun y e => by
  cases e
  exact ⟨by have := h.hi; rw [sizeLine_eq]; omega, strOk_let h.lets⟩
theorem fine_no {d : PyData} (h : ∀ b ds, d ≠ .tuple [b, .dict ds]) : FineB d := fun b ds e => absurd e (h b ds)
abbrev SB : PyData → Prop := fun d => Sz 16700000 9 d ∧ FineB d
theorem sz_two {B C k : Nat} {x y : PyData} (hx : Sz B k x) (hy : Sz C k y) : Sz (B + C + 10) (k + 1) (.tuple [x, y]) := by
  refine ⟨?_, ?_, ?_⟩
  · simp only [PyData.showable]
    refine showAll_of [x, y] fun d hd => ?_
    rcases List.mem_cons.mp hd with rfl | hd
    · exact hx.sh
    · rw [List.mem_singleton.mp hd]; exact hy.sh
  · simp only [PyData.shown]
    rw [shownAll_map]
    have h1 := hx.ln
    have h2 := hy.ln
    show (tupleText [x.shown, y.shown]).length ≤ _
    have e : (tupleText [x.shown, y.shown]).length = x.shown.length + y.shown.length + 4 := by
      unfold tupleText
      rw [lenap, lenap]
      have e1 : ((("(" : String) : Str)).length = 1 := by decide
      have e2 : (((if [x.shown, y.shown].length == 1 then ",)" else ")" : String) : Str)).length = 1 := by show (((")" : String) : Str)).length = 1; decide
      rw [e1, e2]
      have e3 : (Str.join ", " [x.shown, y.shown]).length = x.shown.length + 2 + y.shown.length := by
        show (x.shown ++ ((", " : String) : Str) ++ y.shown).length = _
        have e : (((", " : String) : Str)).length = 2 := by decide
        rw [lenap, lenap, e]
      omega
    omega
  · simp only [PyData.depth, PyData.depthAll]
    have h1 := hx.dp
    have h2 := hy.dp
    omega
theorem sz_dct2 {B C k n : Nat} {ds : List (PyData × PyData)} (h : ∀ d ∈ ds, Sz B k d.1 ∧ Sz C k d.2) (hn : ds.length ≤ n) : Sz (n * (B + C + 4) + 2) (k + 1) (.dict ds) := by
  refine ⟨by simp only [PyData.showable]; exact showKv_of _ fun d hd => ⟨(h d hd).1.sh, (h d hd).2.sh⟩, ?_, by simp only [PyData.depth]; have := depthKv_le k ds fun d hd => ⟨(h d hd).1.dp, (h d hd).2.dp⟩; omega⟩
  simp only [PyData.shown]
  rw [shownKv_map]
  have := dictText_le (B + C + 2) (ds.map fun p => p.1.shown ++ ((": " : String) : Str) ++ p.2.shown) fun t ht => by
    obtain ⟨d, hd, rfl⟩ := List.mem_map.mp ht
    have h1 := (h d hd).1.ln
    have h2 := (h d hd).2.ln
    have e : (((": " : String) : Str)).length = 2 := by decide
    rw [lenap, lenap, e]; omega
  rw [List.length_map] at this
  have h2 := Nat.mul_le_mul_right (B + C + 4) hn
  rw [show B + C + 2 + 2 = B + C + 4 by omega] at this
  omega
/-- what is in a dict that is being made -/
def Fa (w : World) (G : Hp) (kv : List Kvv) : Prop := ∀ x ∈ kv, (∃ d, Dx w G x.2.1 d ∧ S1 d ∧ StrOk d) ∧ ∃ d, Dx w G x.2.2 d ∧ SR d
theorem Fa.mono {w : World} {G G' : Hp} {kv : List Kvv} (h : Fa w G kv) (e : Same G G') : Fa w G' kv := fun x hx => by
  obtain ⟨⟨d, h1, h2⟩, d2, h3, h4⟩ := h x hx
  exact ⟨⟨d, h1.mono e, h2⟩, d2, h3.mono e, h4⟩
theorem Fa.data {w : World} {G : Hp} : ∀ {kv : List Kvv}, Fa w G kv → ∃ ds : List (PyData × PyData), DxAll w G (kv.map fun x => x.2.1) (ds.map (·.1)) ∧ DxAll w G (kv.map fun x => x.2.2) (ds.map (·.2)) ∧ (∀ d ∈ ds, (S1 d.1 ∧ StrOk d.1) ∧ SR d.2) ∧ ds.length = kv.length
  | [], _ => ⟨[], .nil, .nil, (fun _ h => nomatch h), rfl⟩
  | x :: kv, h => by
    obtain ⟨ds, a, b, c, l⟩ := Fa.data (kv := kv) fun y hy => h y (List.mem_cons_of_mem _ hy)
    obtain ⟨⟨d, h1, h2⟩, d2, h3, h4⟩ := h x List.mem_cons_self
    exact ⟨(d, d2) :: ds, .cons h1 a, .cons h3 b, fun y hy => by
      rcases List.mem_cons.mp hy with rfl | hy
      · exact ⟨h2, h4⟩
      · exact c y hy, by rw [List.length_cons, List.length_cons, l]⟩
theorem Fa.put {w : World} {G : Hp} {kv : List Kvv} {k : NestedKey} {i v : V} (h : Fa w G kv) (hi : ∃ d, Dx w G i d ∧ S1 d ∧ StrOk d) (hv : ∃ d, Dx w G v d ∧ SR d) : Fa w G (putN kv k i v) := by
  unfold putN
  split
  · intro x hx
    obtain ⟨y, hy, rfl⟩ := List.mem_map.mp hx
    by_cases c : y.1 = k
    · rw [if_pos c]; exact ⟨(h y hy).1, hv⟩
    · rw [if_neg c]; exact h y hy
  · intro x hx
    rcases List.mem_append.mp hx with hx | hx
    · exact h x hx
    · rw [List.mem_singleton.mp hx]; exact ⟨hi, hv⟩
theorem Fa.dct {w : World} {G : Hp} {kv : List Kvv} {a : Addr} {n : Nat} (h : Fa w G kv) (l : kv.length ≤ n) (d : DF w G a kv) : ∃ ds, Dx w G (.ref a) (.dict ds) ∧ Sz (n * 654004 + 2) 7 (.dict ds) ∧ ∀ k ∈ ds.map (·.1), StrOk k := by
  obtain ⟨ds, h1, h2, h3, h4⟩ := h.data
  refine ⟨ds, .dct d h1 h2, (sz_dct2 (B := 4000) (C := 650000) (k := 6) (n := n) (fun d hd => ⟨(h3 d hd).1.1.up (by decide) (by decide), (h3 d hd).2⟩) (by omega)), fun k hk => ?_⟩
  obtain ⟨d, hd, rfl⟩ := List.mem_map.mp hk
  exact (h3 d hd).1.2
theorem fine_dct {ds : List (PyData × PyData)} (h : ∀ k ∈ ds.map (·.1), StrOk k) {d : PyData} : FineB (.tuple [d, .dict ds]) := fun b' ds' e k hk => by
  injection e with e
  injection e with _ e
  injection e with e
  injection e with e
  subst e
  exact h k hk
theorem Fa.dict {w : World} {G : Hp} {kv : List Kvv} {a c : Addr} {b : Int} (h : Fa w G kv) (l : kv.length ≤ 13) (d : DF w G a kv) (b0 : 0 ≤ b) (b1 : b ≤ 10) (hc : G c = some (.tup [.int b, .ref a])) : ∃ d, Dx w G (.ref c) d ∧ SB d := by
  obtain ⟨ds, h1, h2, h3⟩ := h.dct l d
  exact ⟨.tuple [.int b, .dict ds], .tup hc (.cons (.int _) (.cons h1 .nil)), (sz_two ((s1_int (i := b) (by omega)).up (Nat.le_refl _) (by decide)) h2).up (by decide) (by decide), fine_dct h3⟩
/-- the same while its keys are names -/
def FaK (w : World) (G : Hp) (kv : List (Key × V)) : Prop := ∀ x ∈ kv, (∃ d, Dx w G (kV x.1) d ∧ S1 d ∧ StrOk d) ∧ ∃ d, Dx w G x.2 d ∧ SR d
theorem FaK.fa {w : World} {G : Hp} {kv : List (Key × V)} (h : FaK w G kv) : Fa w G (kvvs kv) := fun x hx => by
  obtain ⟨y, hy, rfl⟩ := List.mem_map.mp hx
  exact h y hy
theorem FaK.put {w : World} {G : Hp} {kv : List (Key × V)} {k : Key} {v : V} (h : FaK w G kv) (hi : ∃ d, Dx w G (kV k) d ∧ S1 d ∧ StrOk d) (hv : ∃ d, Dx w G v d ∧ SR d) : FaK w G (putK kv k v) := by
  unfold putK
  split
  · intro x hx
    obtain ⟨y, hy, rfl⟩ := List.mem_map.mp hx
    by_cases c : y.1 = k
    · rw [if_pos c]; exact ⟨(h y hy).1, hv⟩
    · rw [if_neg c]; exact h y hy
  · intro x hx
    rcases List.mem_append.mp hx with hx | hx
    · exact h x hx
    · rw [List.mem_singleton.mp hx]; exact ⟨hi, hv⟩
theorem putK_le {kv : List (Key × V)} {k : Key} {v : V} : (putK kv k v).length ≤ kv.length + 1 := by
  unfold putK
  split
  · rw [List.length_map]; omega
  · simp
theorem FaK.drop {w : World} {G : Hp} {kv : List (Key × V)} {k : Key} (h : FaK w G kv) : FaK w G (dropK kv k) := fun x hx => h x (List.mem_filter.mp hx).1
theorem kvvs_len (kv : List (Key × V)) : (kvvs kv).length = kv.length := by unfold kvvs; rw [List.length_map]
/-! data hold no dict that may change -/
mutual
theorem Dx.offK {w : World} {G : Hp} {a : Addr} {kv : List (Key × V)} (e : G a = some (.dK kv)) : ∀ {v : V} {d : PyData}, Dx w G v d → Dx w (off G a) v d
  | _, _, .non => .non
  | _, _, .bl b => .bl b
  | _, _, .int i => .int i
  | _, _, .str x => .str x
  | _, _, .lst h t => .lst (by rw [off_ne fun z => by rw [z, e] at h; cases h]; exact h) (DxAll.offK e t)
  | _, _, .tup h t => .tup (by rw [off_ne fun z => by rw [z, e] at h; cases h]; exact h) (DxAll.offK e t)
  | _, _, .dct h t u => .dct (by
      obtain ⟨od, o', es, ep, g, _⟩ := id h
      exact df_leaf h g (by rw [off_ne fun z => by rw [z, e] at g; cases g]; exact g) fun x hx => (h.keyv x hx).up fun c xs q => by rw [off_ne fun z => by rw [z, e] at q; cases q]; exact q) (DxAll.offK e t) (DxAll.offK e u)
theorem DxAll.offK {w : World} {G : Hp} {a : Addr} {kv : List (Key × V)} (e : G a = some (.dK kv)) : ∀ {vs : List V} {ds : List PyData}, DxAll w G vs ds → DxAll w (off G a) vs ds
  | _, _, .nil => .nil
  | _, _, .cons h t => .cons (Dx.offK e h) (DxAll.offK e t)
end

theorem off_skip {H H' : Hp} {p a : Addr} (n : H a = none) (b : But p H H') : Same (off H p) (off (off H' p) a) := fun c o h => by
  have g := off_but b c o h
  rw [off_ne (fun z => by
    rw [z] at h
    by_cases y : a = p
    · rw [y, off_at] at h; cases h
    · rw [off_ne y, n] at h; cases h)]
  exact g
theorem off_two {H H' : Hp} {p a : Addr} (h : ∀ c o, c ≠ p → c ≠ a → H c = some o → H' c = some o) : Same (off (off H p) a) (off (off H' p) a) := fun c o g => by
  by_cases y : c = a
  · rw [y, off_at] at g; cases g
  · by_cases z : c = p
    · rw [off_ne y, z, off_at] at g; cases g
    · rw [off_ne y, off_ne z] at g ⊢; exact h c o z y g
theorem off_more {H H' : Hp} {p a : Addr} (h : ∀ c o, c ≠ p → c ≠ a → H c = some o → H' c = some o) : Same (off (off H p) a) (off H' p) := (off_two h).trans off_same
theorem FaK.mono {w : World} {G G' : Hp} {kv : List (Key × V)} (h : FaK w G kv) (e : Same G G') : FaK w G' kv := fun x hx => by
  obtain ⟨⟨d, h1, h2⟩, d2, h3, h4⟩ := h x hx
  exact ⟨⟨d, h1.mono e, h2⟩, d2, h3.mono e, h4⟩
theorem FaK.offK {w : World} {G : Hp} {a : Addr} {kv kv' : List (Key × V)} (h : FaK w G kv) (e : G a = some (.dK kv')) : FaK w (off G a) kv := fun x hx => by
  obtain ⟨⟨d, h1, h2⟩, d2, h3, h4⟩ := h x hx
  exact ⟨⟨d, h1.offK e, h2⟩, d2, h3.offK e, h4⟩
theorem qs_at {i : Int} (h0 : 0 ≤ i) (h1 : i < 7) : ∃ c, atI ("qrstuvw" : Str).cps.toList i = some c ∧ 97 ≤ c ∧ c ≤ 122 := by
  have h : i = 0 ∨ i = 1 ∨ i = 2 ∨ i = 3 ∨ i = 4 ∨ i = 5 ∨ i = 6 := by omega
  rcases h with rfl | rfl | rfl | rfl | rfl | rfl | rfl <;> exact ⟨_, rfl, by decide, by decide⟩
theorem name_one {c : Nat} (h0 : 97 ≤ c) (h1 : c ≤ 122) : NameOk ⟨#[c]⟩ := ⟨fun x hx => by
  have : x = c := List.mem_singleton.mp hx
  omega, by show 1 ≤ 1; decide, by show 1 ≤ 8; decide⟩
theorem dx_strs {G : Hp} {w : World} : ∀ l : List Str, DxAll w G (l.map V.str) (l.map PyData.str)
  | [] => .nil
  | x :: l => .cons (.str x) (dx_strs l)
/-- a drawn shared book, as data -/
structure BookS (b : Int) (ns : List Str) (rows : List (List PyData)) : Prop where
  b0 : 2 ≤ b
  b1 : b ≤ 10
  n0 : ns ≠ []
  n6 : ns.length ≤ 6
  ok : ∀ x ∈ ns, NameOk x
  len : rows.length = ns.length
  rows : ∀ row ∈ rows, SRow b ns row
structure BkS (w : World) (p bk rr : Addr) (b : Int) (ns : List Str) (rows : List (List PyData)) (kvs : List (Key × V)) (H : Hp) : Prop where
  hb : off H p bk = some (.tup [.int b, .ref rr])
  hr : ∃ od, off H p rr = some (.frz od (.dK kvs))
  df : DF w (off H p) rr (kvvs kvs)
  keys : kvs.map (·.1) = ns.map Sum.inr
  vals : DxAll w (off H p) (kvs.map (·.2)) (rows.map PyData.tuple)
  ok : BookS b ns rows
theorem mkT_s {b : Int} {ns : List Str} {W : Int} {e : Spot × Int} (b1 : b ≤ 10) (hn : ∀ x ∈ ns, NameOk x) (h : (0 ≤ e.1.1 ∧ e.1.1 < b ∧ e.1.2 ∈ ns) ∧ 0 < e.2 ∧ e.2 ≤ W) (hW : W ≤ 30) : ∃ a y s, mkT W e = .tuple [a, y, s] ∧ S1 a ∧ S1 y ∧ S1 s := by
  have small : ∀ i : Int, 0 ≤ i → i ≤ 30 → ∀ g : Int, 0 ≤ g → (i / g).natAbs ≤ 1000 := fun i i0 i1 g g0 => by
    have h1 : 0 ≤ i / g := Int.ediv_nonneg i0 g0
    have h2 : i / g ≤ i := Int.ediv_le_self _ i0
    omega
  have g0 : 0 ≤ gL e.2 W := by unfold gL; omega
  exact ⟨_, _, _, rfl, s1_int (by omega), s1_str (hn _ h.1.2.2), s1_pair (small _ (by omega) (by omega) _ g0) (small _ (by omega) hW _ g0)⟩
theorem SRow.rowT {b : Int} {ns : List Str} {row : List PyData} (h : SRow b ns row) (b1 : b ≤ 10) (hn : ∀ x ∈ ns, NameOk x) : RowT (.tuple row) := by
  obtain ⟨S, W, rfl, nd, ok, sm, W0, W30, l, ne, pw⟩ := h.ex
  refine ⟨_, rfl, by rw [List.length_map]; exact l, fun z => ne (List.map_eq_nil_iff.mp z), fun x hx => ?_⟩
  obtain ⟨e, he, rfl⟩ := List.mem_map.mp hx
  exact mkT_s b1 hn (ok e he) W30
theorem RowT.sr {d : PyData} (h : RowT d) : SR d := by
  obtain ⟨row, rfl, l, _, a⟩ := h
  refine sr_tup (fun x hx => ?_) (by omega)
  obtain ⟨u, y, s, rfl, h1, h2, h3⟩ := a x hx
  refine s2_tup (fun z hz => ?_) (by show 3 ≤ 4; decide)
  simp only [List.mem_cons, List.not_mem_nil, or_false] at hz
  rcases hz with rfl | rfl | rfl
  · exact h1
  · exact h2
  · exact h3
section
variable {w : World} {p bk rr : Addr} {b : Int} {ns : List Str} {rows : List (List PyData)} {kvs : List (Key × V)} {H H' : Hp}
theorem BkS.but (h : BkS w p bk rr b ns rows kvs H) (e : But p H H') : BkS w p bk rr b ns rows kvs H' :=
  ⟨off_but e _ _ h.hb, let ⟨od, g⟩ := h.hr; ⟨od, off_but e _ _ g⟩, h.df.mono (off_but e), h.keys, h.vals.mono (off_but e), h.ok⟩
theorem BkS.rd (h : BkS w p bk rr b ns rows kvs H) : Rd H rr (.dK kvs) := let ⟨od, g⟩ := h.hr; .inr ⟨od, off_same _ _ g⟩
theorem BkS.strs (h : BkS w p bk rr b ns rows kvs H) : (kvs.map fun kv => kV kv.1) = ns.map V.str := by
  have := congrArg (List.map kV) h.keys
  rw [List.map_map, List.map_map] at this
  exact this
theorem BkS.len (h : BkS w p bk rr b ns rows kvs H) : kvs.length = ns.length := by
  have := congrArg List.length h.keys
  rwa [List.length_map, List.length_map] at this
theorem BkS.at_ (S : BkS w p bk rr b ns rows kvs H) {v : V} (hm : v ∈ kvs.map (·.2)) : ∃ d, Dx w (off H p) v d ∧ RowT d := by
  obtain ⟨j, hj⟩ := List.mem_iff_getElem?.mp hm
  obtain ⟨d, e1, e2⟩ := S.vals.get hj
  rw [List.getElem?_map] at e1
  obtain ⟨row, e3, rfl⟩ := Option.map_eq_some_iff.mp e1
  exact ⟨_, e2, (S.ok.rows row (List.mem_of_getElem? e3)).rowT S.ok.b1 S.ok.ok⟩
theorem BkS.row (S : BkS w p bk rr b ns rows kvs H) {x : Str} (h : x ∈ ns) : ∃ v, valV kvs (Sum.inr x) = some v ∧ ∃ d, Dx w (off H p) v d ∧ RowT d := by
  have h1 : (Sum.inr x : Key) ∈ kvs.map (·.1) := by rw [S.keys]; exact List.mem_map.mpr ⟨x, h, rfl⟩
  have h2 : ∃ v, valV kvs (Sum.inr x) = some v := by
    have := valV_any (Sum.inr x : Key) kvs
    obtain ⟨kv, m, e⟩ := List.mem_map.mp h1
    rw [List.any_eq_true.mpr ⟨kv, m, decide_eq_true e⟩] at this
    exact Option.isSome_iff_exists.mp this.symm
  obtain ⟨v, hv⟩ := h2
  have hm : v ∈ kvs.map (·.2) := by
    unfold valV at hv
    obtain ⟨kv, m, e⟩ := Option.map_eq_some_iff.mp hv
    exact List.mem_map.mpr ⟨kv, List.mem_of_find?_eq_some m, e⟩
  exact ⟨v, hv, S.at_ hm⟩
theorem BkS.fak (S : BkS w p bk rr b ns rows kvs H) : FaK w (off H p) kvs := by
  intro x hx
  have hk : x.1 ∈ kvs.map (·.1) := List.mem_map.mpr ⟨x, hx, rfl⟩
  rw [S.keys] at hk
  obtain ⟨nm, hn, e⟩ := List.mem_map.mp hk
  refine ⟨⟨.str nm, by rw [← e]; exact .str nm, s1_str (S.ok.ok nm hn), strOk_name (S.ok.ok nm hn)⟩, ?_⟩
  obtain ⟨d, h1, h2⟩ := S.at_ (v := x.2) (List.mem_map.mpr ⟨x, hx, rfl⟩)
  exact ⟨d, h1, h2.sr⟩
theorem BkS.rowsD (S : BkS w p bk rr b ns rows kvs H) : ∃ ds, Dx w (off H p) (.ref rr) (.dict ds) ∧ Sz 3930000 7 (.dict ds) ∧ ∀ k ∈ ds.map (·.1), StrOk k := by
  obtain ⟨ds, h1, h2, h3⟩ := S.fak.fa.dct (n := 6) (by rw [kvvs_len, S.len]; exact S.ok.n6) S.df
  exact ⟨ds, h1, h2.up (by decide) (by decide), h3⟩
theorem BkS.book (S : BkS w p bk rr b ns rows kvs H) : DX w p SB H (.ref bk) := by
  obtain ⟨ds, h1, h2, h3⟩ := S.rowsD
  exact ⟨_, .tup S.hb (.cons (.int _) (.cons h1 .nil)), (sz_two ((s1_int (i := b) (by have := S.ok.b0; have := S.ok.b1; omega)).up (Nat.le_refl _) (by decide)) h2).up (by decide) (by decide), fine_dct h3⟩
end
theorem items_dx {w : World} {p pc : Addr} {t : Nat} {H : Hp} (P : PenD H p pc t) : ∀ {ts : List Addr} {kv : List (Key × V)}, Paired (fun (a : Addr) (x : Key × V) => H a = some (.tup [kV x.1, x.2])) ts kv → FaK w (off H p) kv → ∃ ds, DxAll w (off H p) (ts.map V.ref) ds ∧ (∀ d ∈ ds, Sz 654010 7 d) ∧ ds.length = kv.length
  | _, _, .nil, _ => ⟨[], .nil, (fun _ h => nomatch h), rfl⟩
  | _, _, .cons h r, f => by
    obtain ⟨ds, a, b, c⟩ := items_dx P r fun y hy => f y (List.mem_cons_of_mem _ hy)
    obtain ⟨⟨d, h1, h2, _⟩, d2, h3, h4⟩ := f _ List.mem_cons_self
    refine ⟨.tuple [d, d2] :: ds, .cons (dx_new P h (.cons h1 (.cons h3 .nil))) a, fun y hy => ?_, by rw [List.length_cons, List.length_cons, c]⟩
    rcases List.mem_cons.mp hy with rfl | hy
    · exact sz_two (h2.up (Nat.le_refl _) (by decide)) h4
    · exact b y hy
/-- the dict at fa while it is being changed -/
structure MkS (w : World) (p pc fa : Addr) (t : Nat) (H4 Ho : Hp) : Prop where
  pen : PenD Ho p pc t
  ag : ∀ c o, c ≠ p → c ≠ fa → H4 c = some o → Ho c = some o
  fd : (∃ kv, Ho fa = some (.dK kv) ∧ kv.length ≤ 13 ∧ FaK w (off (off Ho p) fa) kv) ∨ ∃ kv, DN w Ho fa kv ∧ kv.length ≤ 13 ∧ Fa w (off (off Ho p) fa) kv
end My

set_option linter.all false
namespace My
open PySem PySem.Spec PyProof.Rows L2
/-! ### a shared book with a part otherwise -/
abbrev sBentBk : Stmt := topS 33
def keysS : List PyData := [.str "", .str "A", .str a9, .str "a1", .int 0, .none, .tuple []]
theorem keysS_ok : ∀ d ∈ keysS, S1 d ∧ StrOk d := by
  intro d hd
  unfold keysS at hd
  simp only [List.mem_cons, List.not_mem_nil, or_false] at hd
  have tx : ∀ x : Str, (reprText x).length ≤ 2000 → x.length ≤ 100 → PyData.strOk x = true → S1 (.str x) ∧ StrOk (.str x) := fun x h1 h2 h3 => ⟨s1_text h1, fun y e => by cases e; exact ⟨by rw [sizeLine_eq]; omega, h3⟩⟩
  rcases hd with rfl | rfl | rfl | rfl | rfl | rfl | rfl
  · exact tx _ (by decide +kernel) (by decide +kernel) (by decide +kernel)
  · exact tx _ (by decide +kernel) (by decide +kernel) (by decide +kernel)
  · exact tx _ (by decide +kernel) (by decide +kernel) (by decide +kernel)
  · exact tx _ (by decide +kernel) (by decide +kernel) (by decide +kernel)
  · exact ⟨s1_int (by decide), fun _ e => nomatch e⟩
  · exact ⟨s0_non.up (by decide) (by decide), fun _ e => nomatch e⟩
  · exact ⟨s1_tup0 (fun _ h => absurd h List.not_mem_nil) (by decide), fun _ e => nomatch e⟩
theorem key_S {w : World} {G : Hp} {v : V} {d : PyData} (h : Dx w G v d) (io : d ∈ keysS) : ∃ k, KeyV G k v ∧ k.depth ≤ 8 := by
  cases h with
  | non => exact ⟨_, .non, by simp only [NestedKey.depth]; omega⟩
  | bl b => exact ⟨_, .bl b, by simp only [NestedKey.depth]; omega⟩
  | int i => exact ⟨_, .int i, by simp only [NestedKey.depth]; omega⟩
  | str x => exact ⟨_, .str x, by simp only [NestedKey.depth]; omega⟩
  | lst _ _ => simp [keysS] at io
  | dct _ _ _ => simp [keysS] at io
  | @tup a xs ds h t =>
    have c : ds = [] := by simpa [keysS] using io
    subst c
    cases t
    exact ⟨_, .tup h .nil, by decide⟩
theorem frz_dict {w : World} {p pc fa : Addr} {t n : Nat} {kv : List Kvv} {u : HO} {od : Obj} {Ho Hc : Hp} (fap : fa ≠ p) (fac : fa ≠ pc) (C : PenD Ho p pc t) (df : DF w (upd Ho fa (.frz od u)) fa kv) (l : kv.length ≤ n) (f : Fa w (off (off Ho p) fa) kv) (sc : Same (upd Ho fa (.frz od u)) Hc) :
    PenD Hc p pc t ∧ (∀ a o, a ≠ p → a ≠ fa → Ho a = some o → Hc a = some o) ∧ ∃ ds, Dx w (off Hc p) (.ref fa) (.dict ds) ∧ Sz (n * 654004 + 2) 7 (.dict ds) ∧ ∀ k ∈ ds.map (·.1), StrOk k := by
  have ag : ∀ a, a ≠ fa → upd Ho fa (.frz od u) a = Ho a := fun a ha => upd_ne ha
  have Cc := (C.agree fap fac ag (Nat.le_refl _)).same sc (Nat.le_refl _)
  have b4c : ∀ a o, a ≠ p → a ≠ fa → Ho a = some o → Hc a = some o := fun a o _ hf q => sc _ _ (by rw [ag a hf]; exact q)
  obtain ⟨od', u', es, ep, g, r⟩ := id (df.mono sc)
  have dfo : DF w (off Hc p) fa kv := df_leaf (df.mono sc) g (by rw [off_ne fap]; exact g) fun x hx => ((df.mono sc).keyv x hx).up fun a xs q => PenD.tup_off Cc q
  exact ⟨Cc, b4c, (f.mono (off_more b4c)).dct l dfo⟩
def spBentBk (w : World) : Sp := fun vs H Q _ => ∃ (p pc bk rr : Addr) (b : Int) (ns : List Str) (rows : List (List PyData)) (kvs : List (Key × V)) (t : Nat), vs = [.ref p, .ref bk] ∧ PenD H p pc t ∧ t + 60 < 2 ^ 29 ∧ BkS w p bk rr b ns rows kvs H ∧
  ∀ v H', But p H H' → PenD H' p pc (t + 40) → DX w p SB H' v → Q v H'
section
variable {P : Program} {w : World} {K : PySem.W.Frag} {mg : Str → Option Value} {base : Heap}
theorem scBentBk : FnScope ["pen", "book", "base", "rows", "names", "name", "found", "way", "some", "k"] ["pen", "book"] (defScope sBentBk) := ⟨rfl, rfl, rfl, by decide +kernel, rfl, by decide +kernel, by decide +kernel⟩
theorem ok_bentbk {f fT fOn fO fB : Addr} {fd fdT fdOn fdO fdB : FuncData} (F : Fun K "_law_bent_book" "_law_bent_book" sBentBk f fd) (T : TxS mg) (mli : mg "list" = none) (mdi : mg "dict" = none)
    (FT : Fun K "_law_draw" "_law_draw" sDraw fT fdT) (GT : FnOk P w K mg base CX0 2 fT fdT ["pen", "many"] spDraw) (bT : Binds K fdT ["pen", "many"] []) (gT : mg "_law_draw" = some (.ref fT))
    (FOn : Fun K "_law_one_of" "_law_one_of" sOneOf fOn fdOn) (GOn : FnOk P w K mg base CX0 3 fOn fdOn ["pen", "some"] spOneOf) (bOn : Binds K fdOn ["pen", "some"] []) (gOn : mg "_law_one_of" = some (.ref fOn))
    (FO : Fun K "_law_odd" "_law_odd" sOddS fO fdO) (GO : FnOk P w K mg base CX0 4 fO fdO ["pen"] (spOddS w)) (bO : Binds K fdO ["pen"] []) (gO : mg "_law_odd" = some (.ref fO))
    (FB : Fun K "_law_bent_row" "_law_bent_row" sBSR fB fdB) (GB : FnOk P w K mg base CX0 5 fB fdB ["pen", "row"] (spBSR w)) (bB : Binds K fdB ["pen", "row"] []) (gB : mg "_law_bent_row" = some (.ref fB)) :
    FnOk P w K mg base CX0 6 f fd ["pen", "book"] (spBentBk w) := by
  refine F.ok scBentBk (fun vs H Q E h => ?_) (fun cdv A outer s H vs Q E hr h => ?_)
  · obtain ⟨p, pc, bk, rr, b, ns, rows, kvs, t, rfl, _⟩ := h
    rfl
  · obtain ⟨p, pc, bk, rr, b, ns, rows, kvs, t, rfl, C, tt, S, k⟩ := h
    have hr4 : Room 4 _ := hr.mono (by decide)
    have hr3 : Room 3 _ := hr.mono (by decide)
    have hr2 : Room 2 _ := hr.mono (by decide)
    have hu := hr.units
    have hu9 := Nat.lt_trans (Nat.add_lt_add_left (show 9 < 64 by decide) _) hr.units
    have hu1 := Nat.lt_trans (Nat.add_lt_add_left (show 1 < 64 by decide) _) hr.units
    refine ⟨_, (pss_cons (ps_asg (pv 1) (pg_tup (by rfl) (pgs_cons (pg_name (i := 2) scBentBk.nd rfl (Or.inl rfl)) (pgs_cons (pg_name (i := 3) scBentBk.nd rfl (Or.inl rfl)) pgs_nil))))
      (pss_cons (ps_set (i := 4) scBentBk.nd rfl (Or.inl rfl) (pe_callTy (call_listD rfl) (by rfl) mli boot_list (pa_cons (pv 3) pa_nil)))
      (pss_cons (ps_set (i := 5) scBentBk.nd rfl (Or.inl rfl) (pe_call GOn hr3 (by rfl) gOn FOn.kp bOn .nil pass0 (pa_cons (pv 0) (pa_cons (pv 4) pa_nil))))
      (pss_cons (ps_set (i := 6) scBentBk.nd rfl (Or.inl rfl) (pe_callTy call_dictD (by rfl) mdi boot_dict (pa_cons (pv 3) pa_nil)))
      (pss_cons (ps_set (i := 7) scBentBk.nd rfl (Or.inl rfl) (pe_call GT hr2 (by rfl) gT FT.kp bT .nil pass0 (pa_cons (pv 0) (pa_cons pe_int pa_nil))))
      (pss_cons (ps_if (pt_cmpR op_eq (pv 7) pe_int (nomark _)) (pss_one (ps_ret (pe_tupS (pa_cons (pe_call GO hr4 (by rfl) gO FO.kp bO .nil pass0 (pa_cons (pv 0) pa_nil)) (pa_cons (pe_frz (pv 6)) pa_nil))))) pss_nil)
      (pss_cons (ps_if (pt_cmpR op_eq (pv 7) pe_int (nomark _)) (pss_cons (ps_set (i := 8) scBentBk.nd rfl (Or.inl rfl) (pe_lstS (pa_cons (pe_lstS (pa_cons (pv 2) (pa_cons (pe_frz (pv 6)) pa_nil))) (pa_cons (pe_tupS (pa_cons (pv 2) pa_nil)) (pa_cons (pe_tupS (pa_cons (pv 2) (pa_cons (pv 6) (pa_cons pe_int pa_nil)))) (pa_cons (pe_tupS (pa_cons (pv 2) (pa_cons (pe_itemsR rfl (pv 3) (by rfl) mli boot_list) pa_nil))) (pa_cons (pe_tupS (pa_cons (pv 2) (pa_cons dx_dict0 pa_nil))) (pa_cons (pv 6) pa_nil))))))))
      (pss_one (ps_ret (pe_ix ix_list (pv 8) (pe_call GT hr2 (by rfl) gT FT.kp bT .nil pass0 (pa_cons (pv 0) (pa_cons pe_int pa_nil))) (fun _ _ => rfl))))) pss_nil)
      (C8.pss_cut (ps_if (pt_cmpR op_eq (pv 7) pe_int (nomark _)) (pss_one (ps_for PassesOwn.never rfl (pi_range1 (by rfl) T.range (pa_cons (pe_op op_sub pe_int (pe_call GT hr2 (by rfl) gT FT.kp bT .nil pass0 (pa_cons (pv 0) (pa_cons pe_int pa_nil)))) pa_nil)) (pg_name (i := 9) scBentBk.nd rfl (Or.inl rfl)) (pss_one (ps_dput hu1 (pv 6) (pe_ix ix_str pe_str (pv 9) (fun _ _ => rfl)) (pe_tupS (pa_cons (pe_tupS (pa_cons pe_int (pa_cons (pe_ix ix_str pe_str (pv 9) (fun _ _ => rfl)) (pa_cons (pe_tupS (pa_cons pe_int (pa_cons pe_int pa_nil))) pa_nil)))) pa_nil)) rfl)))) pss_nil)
      (C8.pss_cut (ps_if (pt_cmpR op_eq (pv 7) pe_int (nomark _)) (pss_one (ps_asg (pe_dget hu1 (pv 3) (pv 5) (fun _ _ => rfl)) (pg_sub (pv 6) (pe_call GOn hr3 (by rfl) gOn FOn.kp bOn .nil pass0 (pa_cons (pv 0) (pa_cons (pe_lst (dxs_cons dx_str (dxs_cons dx_str (dxs_cons dx_a9 (dxs_cons dx_str (dxs_cons dx_int (dxs_cons dx_non (dxs_cons (dx_tup dxs_nil (by show 0 ≤ sizeLine; decide)) dxs_nil)))))))) pa_nil))) (set_any hu9)))) pss_nil)
      (C8.pss_cut (ps_if (pt_cmpR op_eq (pv 7) pe_int (nomark _)) (pss_one (ps_expr (pe_dpop1 (pv 6) (pv 5) ⟨by rfl, by rfl, by rfl, by rfl⟩))) pss_nil)
      (C8.pss_cut (ps_if (pt_cmpR op_gt (pv 7) pe_int (nomark _)) (pss_one (ps_dput hu1 (pv 6) (pv 5) (pe_call GB hr (by rfl) gB FB.kp bB .nil pass0 (pa_cons (pv 0) (pa_cons (pe_dget hu1 (pv 3) (pv 5) (fun _ _ => rfl)) pa_nil))) rfl)) pss_nil)
      (pss_one (ps_ret (pe_tupS (pa_cons (pv 2) (pa_cons (pe_frz (pv 6)) pa_nil)))))))))))))))), ?_⟩
    have B := S.ok
    have n6 := B.n6
    have nl0 : 0 < ns.length := List.length_pos_iff.mpr B.n0
    refine ⟨_, rfl, bk, _, rfl, SqT.of (off_same _ _ S.hb), rfl, _, _, rfl, _, _, rfl, rfl, ?_⟩
    -- names
    refine ⟨_, rfl, rr, kvs, rfl, S.rd, fun na nna => ?_⟩
    rw [S.strs]
    have s1 : Same H (upd H na (.lst (ns.map V.str))) := Same.upd nna
    have nap : na ≠ p := C.not nna
    have hna1 : (upd H na (.lst (ns.map V.str))) na = some (.lst (ns.map V.str)) := upd_same
    have C1 := C.same s1 (Nat.le_refl _)
    have S1' := S.but (But.of s1)
    generalize upd H na (.lst (ns.map V.str)) = H1 at s1 hna1 C1 S1'
    -- name
    refine ⟨_, rfl, _, rfl, p, pc, _, _, rfl, C1, by omega, .inl ⟨na, _, rfl, nap, hna1, fun z => B.n0 (List.map_eq_nil_iff.mp z), by rw [List.length_map]; omega, fun v0 H2 vin b2 C2 => ?_⟩⟩
    obtain ⟨nm, nmin, rfl⟩ := List.mem_map.mp vin
    have hna2 := b2 _ _ nap hna1
    have S2' := S1'.but b2
    -- found
    refine ⟨_, rfl, rr, kvs, rfl, S2'.rd, fun fa nfa => ?_⟩
    have fap : fa ≠ p := C2.not nfa
    have fac : fa ≠ pc := fun z => C2.at_c (by rw [← z]; exact nfa)
    have Hfa : H fa = none := by
      cases q : H fa with
      | none => rfl
      | some o => rw [((But.of (p := p) s1).trans b2) _ _ fap q] at nfa; cases nfa
    have s3 : Same H2 (upd H2 fa (.dK kvs)) := Same.upd nfa
    have hfa3 : (upd H2 fa (.dK kvs)) fa = some (.dK kvs) := upd_same
    have C3 := C2.same s3 (Nat.le_refl _)
    have S3' := S2'.but (But.of s3)
    have b03 : But p H (upd H2 fa (.dK kvs)) := ((But.of s1).trans b2).trans (But.of s3)
    generalize upd H2 fa (.dK kvs) = H3 at s3 hfa3 C3 S3' b03
    -- way
    refine ⟨_, rfl, p, pc, 7, _, rfl, by decide, by decide, C3, by omega, fun wy H4 w0 w1 b4 C4 => ?_⟩
    have S4 := S3'.but b4
    have hfa4 := b4 _ _ fap hfa3
    have b04 := b03.trans b4
    clear hna1 hna2 hfa3 C C1 C2 C3 S1' S2' S3' s1 b2 s3 b03 b4 nna nfa vin
    have hfo : off H4 p fa = some (.dK kvs) := by rw [off_ne fap]; exact hfa4
    have fk4 : FaK w (off (off H4 p) fa) kvs := S4.fak.offK hfo
    have kl : kvs.length ≤ 6 := by rw [S4.len]; exact n6
    have kl' : (kvvs kvs).length ≤ 6 := by rw [kvvs_len]; exact kl
    have sb : S1 (.int b) := s1_int (by have := B.b0; have := B.b1; omega)
    refine ⟨_, rfl, rfl, _, rfl, ite2 (fun _ => ?_) (fun c0 => ?_)⟩
    · refine ⟨_, rfl, p, pc, _, rfl, C4, by omega, fun v d G H5 b5 C5 gn sG dv di => ?_⟩
      have hfa5 := b5 _ _ fap hfa4
      have fk5 := fk4.mono (off_two fun c o hp _ q => b5 c o hp q)
      refine ⟨_, rfl, fa, .inl ⟨kvs, hfa5, fun od df => ⟨(by show 2 ≤ sizeLine; decide), fun c Hc sc hc => ?_⟩⟩⟩
      obtain ⟨Cc, ag, ds, x1, x2, x3⟩ := frz_dict fap fac C5 df kl' fk5.fa sc
      have bH : But p H Hc := fun a o hp q => ag a o hp (fun z => by rw [z, Hfa] at q; cases q) (b5 a o hp (b04 a o hp q))
      have dv' : Dx w (off Hc p) v d := dv.mono fun a o q => by
        have ap : a ≠ p := fun z => by rw [z, gn p C4.some] at q; cases q
        have af : a ≠ fa := fun z => by rw [z, gn fa (by rw [hfa4]; exact fun z => nomatch z)] at q; cases q
        rw [off_ne ap]
        exact ag a o ap af (sG a o q)
      exact k _ _ bH (Cc.same (Same.refl _) (by omega)) ⟨_, dx_new Cc hc (.cons dv' (.cons x1 .nil)), (sz_two ((odd_s1 _ di).up (Nat.le_refl _) (by decide)) x2).up (by decide) (by decide), fine_dct x3⟩
    refine ⟨_, rfl, rfl, _, rfl, ite2 (fun _ => ?_) (fun c1 => ?_)⟩
    · refine ⟨_, rfl, _, rfl, fa, .inl ⟨kvs, hfa4, fun od df => ⟨(by show 2 ≤ sizeLine; decide), fun l1 Ha sa nl1 h1 => ?_⟩⟩⟩
      obtain ⟨Ca, ag, ds, x1, x2, x3⟩ := frz_dict fap fac C4 df kl' fk4.fa sa
      have bHa : But p H Ha := fun a o hp q => ag a o hp (fun z => by rw [z, Hfa] at q; cases q) (b04 a o hp q)
      have rdA : Rd Ha rr (.dK kvs) := by
        obtain ⟨od2, g⟩ := S4.hr
        have rp : rr ≠ p := fun z => by rw [z, off_at] at g; cases g
        rw [off_ne rp] at g
        exact .inr ⟨od2, ag _ _ rp (fun z => by rw [z, hfa4] at g; cases g) g⟩
      have fkA : FaK w (off Ha p) kvs := fk4.mono (off_more ag)
      have l1p : l1 ≠ p := fun z => by
        obtain ⟨cells, y1, y2, y3, g1, _⟩ := Ca.ex
        rw [z, g1] at h1
        have := Option.some.inj h1
        injection this with this
        cases this
      clear df sa nl1
      refine ⟨_, rfl, (by show 1 ≤ sizeLine; decide), fun c2 Hb sb2 h2 => ?_⟩
      refine ⟨_, rfl, _, rfl, (by show 3 ≤ sizeLine; decide), fun c3 Hc sc h3 => ?_⟩
      have sbc := sb2.trans sc
      have rdC : Rd Hc rr (.dK kvs) := by
        rcases rdA with g | ⟨od2, g⟩
        · exact .inl (sbc _ _ g)
        · exact .inr ⟨od2, sbc _ _ g⟩
      refine ⟨_, rfl, _, rfl, rr, kvs, rfl, rdC, fun Hd l4 ts sd nl4 hl4 pr => ?_⟩
      have sad := sbc.trans sd
      have Cd := Ca.same sad (Nat.le_refl _)
      have l4p : l4 ≠ p := (Ca.same sbc (Nat.le_refl _)).not nl4
      obtain ⟨is, xi, zi, li⟩ := items_dx Cd pr (fkA.mono (off_of sad))
      refine ⟨(by show 2 ≤ sizeLine; decide), fun c4 He se h4 => ?_⟩
      have Ce := Cd.same se (Nat.le_refl _)
      refine ⟨_, rfl, off He p, off_same, fun v5 G5 Hf m5 d5 => ⟨(by show 2 ≤ sizeLine; decide), fun c5 Hg sg h5 => ?_⟩⟩
      have sef := m5.hh
      have d5g := d5.mono (nw_off m5 Ce.some)
      refine ⟨_, rfl, (by show 6 ≤ sizeLine; decide), fun sm Hh sh nsm hsm => ?_⟩
      have seh := (sef.trans sg).trans sh
      have sdh := se.trans seh
      have sch := sd.trans sdh
      have sbh := sc.trans sch
      have sah := sb2.trans sbh
      have Ch := Ca.same sah (Nat.le_refl _)
      have zb : Sz 4000 7 (.int b) := sb.up (Nat.le_refl _) (by decide)
      have x2' : Sz 3930000 7 (.dict ds) := x2.up (by decide) (by decide)
      have x1h := x1.mono (off_of sah)
      have itm : ∀ v ∈ [V.ref l1, .ref c2, .ref c3, .ref c4, .ref c5, .ref fa], DX w p SB Hh v := by
        intro v hv
        simp only [List.mem_cons, List.not_mem_nil, or_false] at hv
        rcases hv with rfl | rfl | rfl | rfl | rfl | rfl
        · exact ⟨_, .lst (by rw [off_ne l1p]; exact sah _ _ h1) (.cons (.int b) (.cons x1h .nil)), (sz_lst (B := 3930000) (k := 7) (n := 2) (fun d hd => by
            simp only [List.mem_cons, List.not_mem_nil, or_false] at hd
            rcases hd with rfl | rfl
            · exact zb.up (by decide) (by decide)
            · exact x2') (by show 2 ≤ 2; decide)).up (by decide) (by decide), fine_no fun _ _ e => nomatch e⟩
        · exact ⟨_, dx_new Ch (sbh _ _ h2) (.cons (.int b) .nil), (sz_tup (B := 4000) (k := 7) (n := 1) (fun d hd => by rw [List.mem_singleton.mp hd]; exact zb) (by show 1 ≤ 1; decide)).up (by decide) (by decide), fine_no fun _ _ e => by injection e with e; injection e with _ e; cases e⟩
        · exact ⟨_, dx_new Ch (sch _ _ h3) (.cons (.int b) (.cons x1h (.cons (.int 0) .nil))), (sz_tup (B := 3930000) (k := 7) (n := 3) (fun d hd => by
            simp only [List.mem_cons, List.not_mem_nil, or_false] at hd
            rcases hd with rfl | rfl | rfl
            · exact zb.up (by decide) (by decide)
            · exact x2'
            · exact (s1_int (by decide)).up (by decide) (by decide)) (by show 3 ≤ 3; decide)).up (by decide) (by decide), fine_no fun _ _ e => by injection e with e; injection e with _ e; injection e with _ e; cases e⟩
        · have dl4 : Dx w (off Hh p) (.ref l4) (.list is) := .lst (by rw [off_ne l4p]; exact sdh _ _ hl4) (xi.mono (off_of sdh))
          have zl4 : Sz 3940000 8 (.list is) := (sz_lst (B := 654010 + 0) (k := 7) (n := 6) zi (by omega)).up (by decide) (by decide)
          exact ⟨_, dx_new Ch (seh _ _ h4) (.cons (.int b) (.cons dl4 .nil)), (sz_two (zb.up (Nat.le_refl _) (by decide)) zl4).up (by decide) (by decide), fine_no fun _ _ e => by injection e with e; injection e with _ e; injection e with e _; cases e⟩
        · exact ⟨_, dx_new Ch (sh _ _ h5) (.cons (.int b) (.cons (d5g.mono (off_of (sg.trans sh))) .nil)), (sz_two (zb.up (Nat.le_refl _) (by decide)) (show Sz 2 7 (.dict []) from ⟨by decide +kernel, by decide +kernel, by decide +kernel⟩)).up (by decide) (by decide), fine_dct fun _ h => absurd h List.not_mem_nil⟩
        · exact ⟨_, x1h, x2'.up (by decide) (by decide), fine_no fun _ _ e => nomatch e⟩
      have smp : sm ≠ p := fun z => by
        obtain ⟨cells, y1, y2, y3, g1, _⟩ := Ch.ex
        rw [z, g1] at hsm
        have := Option.some.inj hsm
        injection this with this
        cases this
      have hvl : [V.ref l1, .ref c2, .ref c3, .ref c4, .ref c5, .ref fa].length = 6 := rfl
      generalize [V.ref l1, V.ref c2, V.ref c3, V.ref c4, V.ref c5, V.ref fa] = vs at hsm itm hvl
      refine ⟨_, rfl, _, rfl, p, pc, 6, _, rfl, by decide, by decide, Ch, by omega, fun i Hi i0' i1' bi Ci => ?_⟩
      obtain ⟨v, vin, hv⟩ : ∃ v ∈ vs, atI vs i = some v := by
        obtain ⟨j, rfl⟩ : ∃ j : Nat, i = (j : Int) := ⟨i.toNat, by omega⟩
        have hj : j < vs.length := by omega
        exact ⟨vs[j], List.getElem_mem hj, atI_nat (List.getElem?_eq_getElem hj)⟩
      exact ⟨sm, _, _, v, rfl, rfl, SqL.of (bi _ _ smp hsm), hv, k _ _ ((bHa.trans (But.of sah)).trans bi) (Ci.same (Same.refl _) (by omega)) ((itm v vin).but bi)⟩
    have w2 : wy ≠ 0 ∧ wy ≠ 1 := ⟨fun z => (by subst z; exact c0 rfl), fun z => (by subst z; exact c1 rfl)⟩
    -- way == 2
    refine ⟨fun σ Ho => ∃ x9 : Option V, σ = [some (.ref p), some (.ref bk), some (.int b), some (.ref rr), some (.ref na), some (.str nm), some (.ref fa), some (.int wy), none, x9] ∧ ((wy = 2 ∧ MkS w p pc fa (t + 30) H4 Ho) ∨ (wy ≠ 2 ∧ Ho = H4)), ?_, ?_⟩
    · refine ⟨_, rfl, rfl, _, rfl, ite2 (fun c2 => ?_) (fun c2 => ⟨_, rfl, .inr ⟨fun z => (by subst z; exact c2 rfl), rfl⟩⟩)⟩
      have ew : wy = 2 := by
        have := of_decide_eq_true c2
        exact V.int.inj this
      subst ew
      refine ⟨_, rfl, p, pc, 3, _, rfl, by decide, by decide, C4, by omega, fun i H5 i0' i1' b5 C5 => ?_⟩
      have hfa5 := b5 _ _ fap hfa4
      refine ⟨_, _, rfl, rfl, _, rfl, by omega, by omega, for_it (walk_range (lo := 0) (n := (7 - i).toNat)) (fun j σ Ho => ∃ x9 : Option V, σ = [some (.ref p), some (.ref bk), some (.int b), some (.ref rr), some (.ref na), some (.str nm), some (.ref fa), some (.int 2), none, x9] ∧
        j ≤ 7 ∧ PenD Ho p pc (t + 30) ∧ (∀ c o, c ≠ p → c ≠ fa → H4 c = some o → Ho c = some o) ∧ ∃ kv, Ho fa = some (.dK kv) ∧ kv.length ≤ kvs.length + j ∧ FaK w (off (off Ho p) fa) kv) ?_ (fun _ _ _ _ _ => trivial) ?_ ?_⟩
      · exact ⟨_, rfl, Nat.zero_le _, C5.same (Same.refl _) (by omega), fun c o hp _ q => b5 c o hp q, kvs, hfa5, Nat.le_refl _, fk4.mono (off_two fun c o hp _ q => b5 c o hp q)⟩
      · rintro j x σ Ho Hp' hj ⟨x9, rfl, j7, Co, ag, kv, hkv, kvl, fk⟩ ⟨rfl, hx⟩
        replace hx : x = V.int j := hx.trans (by show V.int (0 + (j : Int)) = _; rw [Int.zero_add])
        subst hx
        obtain ⟨c, hc, c97, c122⟩ := qs_at (i := (j : Int)) (by omega) (by omega)
        have n1 := name_one c97 c122
        refine ⟨_, rfl, _, _, c, rfl, rfl, by rw [sizeLine_eq]; decide +kernel, hc, (by show 2 ≤ sizeLine; decide), fun e1 Ha sa he1 => ⟨(by show 3 ≤ sizeLine; decide), fun e2 Hb sb2 he2 => ⟨(by show 1 ≤ sizeLine; decide), fun e3 Hc sc he3 => ?_⟩⟩⟩
        have sac := (sa.trans sb2).trans sc
        have hfc := sac _ _ hkv
        have Cc := Co.same sac (Nat.le_refl _)
        have he1c := sc _ _ (sb2 _ _ he1)
        have he2c := sc _ _ he2
        have nf : ∀ (e : Addr) (ys : List V), Hc e = some (.tup ys) → e ≠ fa := fun e ys h z => by rw [z, hfc] at h; cases h
        have at2 : ∀ (e : Addr) (ys : List V), Hc e = some (.tup ys) → off (off Hc p) fa e = some (.tup ys) := fun e ys h => by
          rw [off_ne (nf e ys h)]; exact PenD.tup_off Cc h
        refine ⟨_, rfl, _, rfl, _, _, c, rfl, rfl, by rw [sizeLine_eq]; decide +kernel, hc, fa, _, rfl, DPut.k (k := Sum.inr ⟨#[c]⟩) hfc (by rw [sizeLine_eq]; omega), ?_⟩
        have ag' : ∀ a, a ≠ fa → upd Hc fa (.dK (putK kv (Sum.inr ⟨#[c]⟩) (.ref e3))) a = Hc a := fun a ha => upd_ne ha
        refine ⟨_, rfl, by omega, Cc.agree fap fac ag' (Nat.le_refl _), fun a o hp hf q => by rw [ag' a hf]; exact sac _ _ (ag a o hp hf q), _, upd_same, by have := putK_le (kv := kv) (k := (Sum.inr ⟨#[c]⟩ : Key)) (v := .ref e3); omega, ?_⟩
        have dv : Dx w (off (off Hc p) fa) (.ref e3) (.tuple [.tuple [.int 0, .str ⟨#[c]⟩, .tuple [.int 1, .int 1]]]) := .tup (at2 _ _ he3) (.cons (.tup (at2 _ _ he2c) (.cons (.int 0) (.cons (.str _) (.cons (.tup (at2 _ _ he1c) (.cons (.int 1) (.cons (.int 1) .nil))) .nil)))) .nil)
        have sr : SR (.tuple [.tuple [.int 0, .str ⟨#[c]⟩, .tuple [.int 1, .int 1]]]) := RowT.sr ⟨_, rfl, by show 1 ≤ 12; decide, (fun z => nomatch z), fun y hy => ⟨_, _, _, List.mem_singleton.mp hy, s1_int (by decide), s1_str n1, s1_pair (by decide) (by decide)⟩⟩
        refine ((fk.mono (off_two fun a o _ _ q => sac a o q)).put ⟨.str ⟨#[c]⟩, .str _, s1_str n1, strOk_name n1⟩ ⟨_, dv, sr⟩).mono (off_two fun a o _ ha q => by rw [ag' a ha]; exact q)
      · rintro σ Ho ⟨x9, rfl, j7, Co, ag, kv, hkv, kvl, fk⟩
        exact ⟨_, rfl, .inl ⟨rfl, Co, ag, .inl ⟨kv, hkv, by omega, fk⟩⟩⟩
    rintro σ Ho ⟨x9, rfl, st2⟩
    -- way == 3
    refine ⟨fun σ Ho => ∃ x9 : Option V, σ = [some (.ref p), some (.ref bk), some (.int b), some (.ref rr), some (.ref na), some (.str nm), some (.ref fa), some (.int wy), none, x9] ∧ ((wy < 4 ∧ MkS w p pc fa (t + 30) H4 Ho) ∨ (4 ≤ wy ∧ Ho = H4)), ?_, ?_⟩
    · refine ⟨_, rfl, rfl, _, rfl, ite2 (fun c3 => ?_) (fun c3 => ⟨_, rfl, ?_⟩)⟩
      · have ew : wy = 3 := V.int.inj (of_decide_eq_true c3)
        subst ew
        rcases st2 with ⟨z, _⟩ | ⟨_, rfl⟩
        · cases z
        obtain ⟨v, hv, d, dv, rt⟩ := S4.row nmin
        have dvo := dv.offK (kv := kvs) hfo
        refine ⟨_, rfl, _, rfl, rr, v, rfl, .inl ⟨kvs, Sum.inr nm, S4.rd, rfl, hv.symm⟩, ?_⟩
        refine ⟨_, rfl, _, rfl, off Ho p, off_same, fun vs1 G1 H5 m1 d1 => ?_⟩
        have l1 := d1.len
        refine ⟨by rw [l1]; decide, fun l nl => ?_⟩
        have s1 : Same Ho (upd H5 l (.lst vs1)) := m1.hh.trans (Same.upd nl)
        have C5 := C4.same s1 (Nat.le_refl _)
        have lp : l ≠ p := fun z => C4.some (m1.hh.free (z ▸ nl))
        have d2 := (d1.mono (nw_off m1 C4.some)).mono (off_of (Same.upd (o := .lst vs1) nl))
        have hl : (upd H5 l (.lst vs1)) l = some (.lst vs1) := upd_same
        revert s1 C5 d2 hl
        generalize upd H5 l (.lst vs1) = H6
        intro s1 C5 d2 hl
        refine ⟨p, pc, _, _, rfl, C5, by omega, .inl ⟨l, vs1, rfl, lp, hl, fun z => (by rw [z] at l1; cases l1), by rw [l1]; decide, fun kv' H7 vin b7 C7 => ?_⟩⟩
        obtain ⟨dk, dki, dkx⟩ := dx_in (d2.mono (off_but b7)) vin
        have hfa6 := s1 _ _ hfa4
        have hfa7 := b7 _ _ fap hfa6
        obtain ⟨k', hk', h8⟩ := key_S (dkx.mono off_same) dki
        have bb : But p Ho H7 := (But.of s1).trans b7
        refine ⟨fa, k', rfl, hk', h8, .inl ⟨kvs, hfa7, by rw [sizeLine_eq]; omega, fun H8 ag dn => ⟨_, rfl, .inl ⟨by decide, ?_⟩⟩⟩⟩
        have s78 : Same (off (off H7 p) fa) (off (off H8 p) fa) := off_two fun c o _ hc q => by rw [ag c hc]; exact q
        have two7 : Same (off (off Ho p) fa) (off (off H7 p) fa) := off_two fun c o hp _ q => bb c o hp q
        have dk7 : Dx w (off (off H7 p) fa) kv' dk := dkx.offK (kv := kvs) (by rw [off_ne fap]; exact hfa7)
        obtain ⟨q1, q2⟩ := keysS_ok dk dki
        refine ⟨C7.agree fap fac ag (by omega), fun c o hp hf q => by rw [ag c hf]; exact bb c o hp q, .inr ⟨_, dn, ?_, ?_⟩⟩
        · have := putN_len (kvs := kvvs kvs) (k := k') (i := kv') (v := v)
          omega
        · exact (((fk4.mono two7).fa).put ⟨dk, dk7, q1, q2⟩ ⟨d, dvo.mono two7, rt.sr⟩).mono s78
      · rcases st2 with ⟨z, M⟩ | ⟨z, rfl⟩
        · exact .inl ⟨by omega, M⟩
        · exact .inr ⟨by
            have : wy ≠ 3 := fun z => by subst z; exact c3 rfl
            omega, rfl⟩
    clear st2
    rintro σ Ho ⟨x9, rfl, st3⟩
    -- way == 4
    refine ⟨fun σ Ho => ∃ x9 : Option V, σ = [some (.ref p), some (.ref bk), some (.int b), some (.ref rr), some (.ref na), some (.str nm), some (.ref fa), some (.int wy), none, x9] ∧ ((wy < 5 ∧ MkS w p pc fa (t + 30) H4 Ho) ∨ (5 ≤ wy ∧ Ho = H4)), ?_, ?_⟩
    · refine ⟨_, rfl, rfl, _, rfl, ite2 (fun c4 => ?_) (fun c4 => ⟨_, rfl, ?_⟩)⟩
      · have ew : wy = 4 := V.int.inj (of_decide_eq_true c4)
        subst ew
        rcases st3 with ⟨z, _⟩ | ⟨_, rfl⟩
        · exact absurd z (by decide)
        obtain ⟨v, hv, _⟩ := S4.row nmin
        refine ⟨_, rfl, fa, rfl, .inl ⟨kvs, .inl hfa4⟩, _, rfl, kvs, Sum.inr nm, v, hfa4, rfl, hv, ?_⟩
        have ag : ∀ c, c ≠ fa → upd Ho fa (.dK (dropK kvs (Sum.inr nm))) c = Ho c := fun c hc => upd_ne hc
        refine ⟨_, rfl, .inl ⟨by decide, C4.agree fap fac ag (by omega), fun c o _ hf q => by rw [ag c hf]; exact q, .inl ⟨_, upd_same, by have := dropK_le kvs (Sum.inr nm : Key); omega, ?_⟩⟩⟩
        exact fk4.drop.mono (off_two fun c o _ hc q => by rw [ag c hc]; exact q)
      · rcases st3 with ⟨z, M⟩ | ⟨z, rfl⟩
        · exact .inl ⟨by omega, M⟩
        · exact .inr ⟨by
            have : wy ≠ 4 := fun z => by subst z; exact c4 rfl
            omega, rfl⟩
    clear st3
    rintro σ Ho ⟨x9, rfl, st4⟩
    -- way > 4
    refine ⟨fun σ Ho => ∃ x9 : Option V, σ = [some (.ref p), some (.ref bk), some (.int b), some (.ref rr), some (.ref na), some (.str nm), some (.ref fa), some (.int wy), none, x9] ∧ MkS w p pc fa (t + 30) H4 Ho, ?_, ?_⟩
    · refine ⟨_, rfl, _, _, rfl, rfl, _, rfl, ite2 (fun c5 => ?_) (fun c5 => ⟨_, rfl, ?_⟩)⟩
      · rcases st4 with ⟨z, _⟩ | ⟨_, rfl⟩
        · exact absurd (of_decide_eq_true c5) (by omega)
        obtain ⟨v, hv, d, dv, rt⟩ := S4.row nmin
        refine ⟨_, rfl, _, rfl, _, rfl, rr, v, rfl, .inl ⟨kvs, Sum.inr nm, S4.rd, rfl, hv.symm⟩, p, pc, v, _, rfl, C4, by omega, ⟨d, dv, rt⟩, fun v' H5 b5 C5 d5 => ?_⟩
        have hfa5 := b5 _ _ fap hfa4
        refine ⟨_, rfl, _, rfl, fa, _, rfl, DPut.k (k := Sum.inr nm) hfa5 (by rw [sizeLine_eq]; omega), ?_⟩
        obtain ⟨d', x5, z5⟩ := d5
        have ag' : ∀ a, a ≠ fa → upd H5 fa (.dK (putK kvs (Sum.inr nm) v')) a = H5 a := fun a ha => upd_ne ha
        refine ⟨_, rfl, C5.agree fap fac ag' (by omega), fun c o hp hf q => by rw [ag' c hf]; exact b5 c o hp q, .inl ⟨_, upd_same, by have := putK_le (kv := kvs) (k := (Sum.inr nm : Key)) (v := v'); omega, ?_⟩⟩
        refine ((fk4.mono (off_two fun c o hp _ q => b5 c o hp q)).put ⟨.str nm, .str nm, s1_str (B.ok _ nmin), strOk_name (B.ok _ nmin)⟩ ⟨d', x5.offK (kv := kvs) (by rw [off_ne fap]; exact hfa5), z5⟩).mono (off_two fun a o _ ha q => by rw [ag' a ha]; exact q)
      · rcases st4 with ⟨_, M⟩ | ⟨z, _⟩
        · exact M
        · exact absurd (decide_eq_true (show 4 < wy by omega)) c5
    clear st4
    rintro σ Ho ⟨x9, rfl, M⟩
    have done : ∀ (kv : List Kvv) (u : HO) (od : Obj) (c : Addr) (Hc : Hp), DF w (upd Ho fa (.frz od u)) fa kv → kv.length ≤ 13 → Fa w (off (off Ho p) fa) kv → Same (upd Ho fa (.frz od u)) Hc → Hc c = some (.tup [.int b, .ref fa]) → Q (.ref c) Hc := fun kv u od c Hc df l f sc hc => by
      obtain ⟨Cc, ag, ds, x1, x2, x3⟩ := frz_dict fap fac M.pen df l f sc
      have bH : But p H Hc := fun a o hp q => by
        have hf : a ≠ fa := fun z => by rw [z, Hfa] at q; cases q
        exact ag a o hp hf (M.ag a o hp hf (b04 a o hp q))
      exact k _ _ bH (Cc.same (Same.refl _) (by omega)) ⟨_, dx_new Cc hc (.cons (.int b) (.cons x1 .nil)), (sz_two (sb.up (Nat.le_refl _) (by decide)) x2).up (by decide) (by decide), fine_dct x3⟩
    rcases M.fd with ⟨kv, h1, h2, h3⟩ | ⟨kv, h1, h2, h3⟩
    · refine ⟨_, rfl, _, rfl, fa, .inl ⟨kv, h1, fun od df => ⟨(by show 2 ≤ sizeLine; decide), fun c Hc sc hc => ?_⟩⟩⟩
      exact done _ _ od c Hc df (by rw [kvvs_len]; exact h2) h3.fa sc hc
    · obtain ⟨es, ep, g1, g2⟩ := h1
      refine ⟨_, rfl, _, rfl, fa, .inr ⟨kv, es, ep, g1, g2, fun od df => ⟨(by show 2 ≤ sizeLine; decide), fun c Hc sc hc => ?_⟩⟩⟩
      exact done _ _ od c Hc df h2 h3 sc hc
end
end My

set_option linter.all false
namespace My
open PySem PySem.Spec PyProof.Rows L2
/-! ### data made by an expression in which whole numbers stand by name -/
def tDv (w : World) (d : L2.St → Option PyData) : TE := fun σ H Q => ∃ D, d σ = some D ∧ ∃ G, Same G H ∧ ∀ v G' H', Nw G H G' H' → Dx w G' v D → Q v H'
def tDvs (w : World) (ds : L2.St → Option (List PyData)) : TA := fun σ H Q => ∃ D, ds σ = some D ∧ ∃ G, Same G H ∧ ∀ vs G' H', Nw G H G' H' → DxAll w G' vs D → Q vs H'
def dC (d : PyData) : L2.St → Option PyData := fun _ => some d
def dV (i : Nat) : L2.St → Option PyData := fun σ => match σ[i]? with
  | some (some (.int n)) => some (.int n)
  | _ => none
def dVm (i : Nat) (j : Int) : L2.St → Option PyData := fun σ => match σ[i]? with
  | some (some (.int n)) => some (.int (n - j))
  | _ => none
def dNil : L2.St → Option (List PyData) := fun _ => some []
def dCons (d : L2.St → Option PyData) (ds : L2.St → Option (List PyData)) : L2.St → Option (List PyData) := fun σ => match d σ, ds σ with
  | some a, some b => some (a :: b)
  | _, _ => none
def dTup (ds : L2.St → Option (List PyData)) : L2.St → Option PyData := fun σ => match ds σ with
  | some a => some (.tuple a)
  | _ => none
def dDct (x : Str) (d : L2.St → Option PyData) : L2.St → Option PyData := fun σ => match d σ with
  | some a => some (.dict [(.str x, a)])
  | _ => none
theorem dCons_some {d : L2.St → Option PyData} {ds : L2.St → Option (List PyData)} {σ : L2.St} {D : List PyData} (h : dCons d ds σ = some D) : ∃ a b, d σ = some a ∧ ds σ = some b ∧ D = a :: b := by
  unfold dCons at h
  split at h
  · rename_i a b e1 e2
    exact ⟨a, b, e1, e2, (Option.some.inj h).symm⟩
  · cases h
theorem dl_nil : ∀ (σ : L2.St) (D : List PyData), dNil σ = some D → D.length ≤ 0 := fun _ _ h => by cases h; exact Nat.le_refl 0
theorem dl_cons {d : L2.St → Option PyData} {ds : L2.St → Option (List PyData)} {n : Nat} (h : ∀ (σ : L2.St) (D : List PyData), ds σ = some D → D.length ≤ n) : ∀ (σ : L2.St) (D : List PyData), dCons d ds σ = some D → D.length ≤ n + 1 := fun σ D e => by
  obtain ⟨a, b, _, e2, rfl⟩ := dCons_some e
  have := h σ b e2
  rw [List.length_cons]; omega
theorem dl_of {ds : L2.St → Option (List PyData)} {n : Nat} (h : ∀ (σ : L2.St) (D : List PyData), ds σ = some D → D.length ≤ n) (hn : n ≤ sizeLine) : ∀ (σ : L2.St) (D : List PyData), ds σ = some D → D.length ≤ sizeLine := fun σ D e => Nat.le_trans (h σ D e) hn
theorem nw_frz {G H G1 H1 : Hp} {p : Addr} {o u : HO} (np : H p = none) (e : Same G H) (n : Nw G (upd H p u) G1 H1) : Nw G H (upd G1 p o) (upd H1 p o) ∧ G1 p = none := by
  have gp : G p = none := e.free np
  have g1 : G1 p = none := (n.old p (by rw [upd_same]; exact fun z => nomatch z)).trans gp
  refine ⟨⟨fun c x h => ?_, fun c x h => ?_, fun c x h => ?_, fun c h => ?_⟩, g1⟩
  · have cp : c ≠ p := fun z => by rw [z, gp] at h; cases h
    rw [upd_ne cp]; exact n.gg _ _ h
  · by_cases cp : c = p
    · subst cp; rw [upd_same] at h ⊢; exact h
    · rw [upd_ne cp] at h ⊢; exact n.gh _ _ h
  · have cp : c ≠ p := fun z => by rw [z, np] at h; cases h
    rw [upd_ne cp]; exact n.hh _ _ (by rw [upd_ne cp]; exact h)
  · have cp : c ≠ p := fun z => h (by rw [z]; exact np)
    rw [upd_ne cp]; exact n.old _ (by rw [upd_ne cp]; exact h)
section
variable {X : Cx} {pos : Pos}
theorem dv_c {e : Expr} {D : PyData} (h : PE X e (tDx X.w D)) : PE X e (tDv X.w (dC D)) := PE.imp h fun _ _ _ ⟨_, e, G, s, k⟩ => ⟨G, s, by cases e; exact k⟩
theorem dv_v {e : Expr} {i : Nat} (h : PE X e (tVar i)) : PE X e (tDv X.w (dV i)) := PE.imp h fun σ H Q ⟨D, e, G, s, k⟩ => by
  unfold dV at e
  split at e
  · rename_i n en
    cases e
    exact ⟨.int n, en, k _ _ _ (Nw.refl s) (.int n)⟩
  · cases e
theorem dv_vm {e f : Expr} {i : Nat} {j : Int} (h : PE X e (tVar i)) (hf : PE X f (tC (.int j))) : PE X (.BinOp e .Sub f pos) (tDv X.w (dVm i j)) := PE.imp (pe_op op_sub h hf) fun σ H Q ⟨D, e, G, s, k⟩ => by
  unfold dVm at e
  split at e
  · rename_i n en
    cases e
    exact ⟨.int n, en, _, _, rfl, rfl, k _ _ _ (Nw.refl s) (.int _)⟩
  · cases e
theorem dvs_nil : PA X [] (tDvs X.w dNil) := PA.imp pa_nil fun _ _ _ ⟨_, e, G, s, k⟩ => k _ _ _ (Nw.refl s) (by cases e; exact .nil)
theorem dvs_cons {e : Expr} {es : List Expr} {d : L2.St → Option PyData} {ds : L2.St → Option (List PyData)} (h1 : PE X e (tDv X.w d)) (h2 : PA X es (tDvs X.w ds)) (hs : starEach (e :: es) X.env = (false, eval e X.env) :: starEach es X.env := by rfl) : PA X (e :: es) (tDvs X.w (dCons d ds)) :=
  PA.imp (pa_cons h1 h2 hs) fun σ H Q ⟨D, e, G, s, k⟩ => by
    obtain ⟨a, b, e1, e2, rfl⟩ := dCons_some e
    exact ⟨a, e1, G, s, fun _ G1 _ n1 d1 => ⟨b, e2, G1, n1.gh, fun _ _ _ n2 d2 => k _ _ _ (n1.trans n2) (.cons (d1.mono n2.gg) d2)⟩⟩
theorem dv_tup {es : List Expr} {ds : L2.St → Option (List PyData)} {x1} (h : PA X es (tDvs X.w ds)) (hl : ∀ σ D, ds σ = some D → D.length ≤ sizeLine) : PE X (.Tuple es x1 pos) (tDv X.w (dTup ds)) :=
  PE.imp (pe_tup h) fun σ H Q ⟨D, e, G, s, k⟩ => by
    unfold dTup at e
    split at e
    · rename_i a ea
      cases e
      exact ⟨a, ea, G, s, fun vs G1 H1 n1 d1 => ⟨by rw [d1.len]; exact hl σ a ea, fun p np => k _ _ _ (n1.trans (Nw.mk1 n1.gh np (.tup vs))) (.tup upd_same (d1.mono (Nw.mk1 n1.gh np (.tup vs)).gg))⟩⟩
    · cases e
theorem dv_dct {x : Str} {j : Nat} {e : Expr} {p2 : Pos} {d : L2.St → Option PyData} (h : PE X e (tDv X.w d)) : PE X (.Dict [some (.Constant (.str x) j p2)] [e] pos) (tDv X.w (dDct x d)) :=
  PE.imp (pe_frz (pe_disp (pps_cons pe_str h pps_nil) (by rfl) (by rfl) (fun z => by cases z) (by show 1 ≤ 15; decide))) fun σ H Q ⟨D, e, G, s, k⟩ => by
    unfold dDct at e
    split at e
    · rename_i a ea
      cases e
      intro p np
      refine ⟨a, ea, G, fun c o g => ?_, fun v G1 H1 n1 d1 => ⟨n1.hh _ _ upd_same, [(Sum.inr x, v)], rfl, (by show 1 ≤ 15; decide), p, .inl ⟨_, upd_same, fun od df => ?_⟩⟩⟩
      · have cp : c ≠ p := fun z => by rw [z, s.free np] at g; cases g
        rw [upd_ne cp]; exact s _ _ g
      rw [upd_upd] at df ⊢
      obtain ⟨nn, g1⟩ := nw_frz (o := .frz od (.dK (mergeK [] [(Sum.inr x, v)]))) np s n1
      refine k _ _ _ nn (.dct (df_leaf df upd_same upd_same fun y hy => ?_) (.cons (.str x) .nil) (.cons (d1.mono (Same.upd g1)) .nil))
      obtain ⟨z, hz, rfl⟩ := List.mem_map.mp hy
      exact kN_kv _ _
    · cases e
end
/-! a list that may change, left out of the data -/
theorem nw_off2 {t p : Addr} {G' H H' : Hp} (m : Nw (off (off H t) p) H G' H') (ht : H t ≠ none) (hp : H p ≠ none) : Same G' (off (off H' t) p) := fun c o h => by
  have gp : G' p = none := (m.old p hp).trans off_at
  have cp : c ≠ p := fun e => by rw [e, gp] at h; cases h
  have gt : G' t = none := by
    refine (m.old t ht).trans ?_
    by_cases z : t = p
    · rw [z]; exact off_at
    · rw [off_ne z]; exact off_at
  have ct : c ≠ t := fun e => by rw [e, gt] at h; cases h
  rw [off_ne cp, off_ne ct]; exact m.gh _ _ h
theorem offs_same {t p : Addr} {H : Hp} : Same (off (off H t) p) H := off_same.trans off_same
/-! how large -/
theorem sd_i {i : Int} (h : i.natAbs ≤ 1000) : Sz 4000 2 (.int i) := s1_int h
theorem sd_t3 {ds : List PyData} (h : ∀ d ∈ ds, Sz 4000 2 d) (l : ds.length ≤ 3) : Sz 12009 3 (.tuple ds) := (sz_tup (n := 3) h l).up (by decide) (by decide)
theorem sd_t33 {ds : List PyData} (h : ∀ d ∈ ds, Sz 12009 3 d) (l : ds.length ≤ 3) : Sz 36036 4 (.tuple ds) := (sz_tup (n := 3) h l).up (by decide) (by decide)
theorem sd_t13 {ds : List PyData} (h : ∀ d ∈ ds, Sz 36036 4 d) (l : ds.length ≤ 13) : Sz 470000 5 (.tuple ds) := (sz_tup (n := 13) h l).up (by decide) (by decide)
theorem sd_dct {d : PyData} {x : Str} (hx : Sz 4000 2 (.str x)) (h : Sz 470000 5 d) : Sz 480000 6 (.dict [(.str x, d)]) :=
  (sz_dct2 (B := 4000) (C := 470000) (k := 5) (n := 1) (fun y hy => by rw [List.mem_singleton.mp hy]; exact ⟨hx.up (by decide) (by decide), h⟩) (by show 1 ≤ 1; decide)).up (by decide) (by decide)
theorem strOk_ab : StrOk (.str "a") ∧ StrOk (.str "b") := ⟨fun y e => by cases e; exact ⟨by rw [sizeLine_eq]; decide +kernel, by decide +kernel⟩, fun y e => by cases e; exact ⟨by rw [sizeLine_eq]; decide +kernel, by decide +kernel⟩⟩
theorem sd_ab : Sz 4000 2 (.str "a") ∧ Sz 4000 2 (.str "b") := ⟨s1_text (by decide +kernel), s1_text (by decide +kernel)⟩
/-- a book of one name -/
theorem sb_one {i : Int} {d : PyData} (hi : i.natAbs ≤ 1000) (h : Sz 470000 5 d) : SB (.tuple [.int i, .dict [(.str "a", d)]]) :=
  ⟨(sz_two ((sd_i hi).up (Nat.le_refl _) (by decide)) (sd_dct sd_ab.1 h)).up (by decide) (by decide), fine_dct fun k hk => by
    have e : k = .str "a" := by simpa using hk
    rw [e]; exact strOk_ab.1⟩
theorem sb_flat {d : PyData} (h : Sz 480000 6 d) (n : ∀ b ds, d ≠ .tuple [b, .dict ds]) : SB d := ⟨h.up (by decide) (by decide), fine_no n⟩
end My

set_option linter.all false
namespace My
open PySem PySem.Spec PyProof.Rows L2
abbrev sLaw9 : Stmt := topS 34
def spLaw (K : PySem.W.Frag) : Sp := fun vs H Q _ => ∃ (a : Addr) (ns : List Int), vs = [.ref a] ∧ SqL K H a (ns.map V.int) ∧ ns.length ≤ 63 ∧ ∀ H', Q (.bl true) H'
structure TxL9 (mg : Str → Option Value) : Prop where
  range : mg "range" = none
  tuple : mg "tuple" = none
  sorted : mg "sorted" = none
  repr : mg "repr" = none
theorem off_upd {H : Hp} {a : Addr} {o : HO} : off (upd H a o) a = off H a := by
  funext c
  by_cases z : c = a
  · rw [z, off_at, off_at]
  · rw [off_ne z, off_ne z, upd_ne z]
theorem same_offD {D : Addr} {H H' : Hp} (n : H D = none) (b : ∀ c, c ≠ D → H' c = H c) : Same H (off H' D) := fun c o q => by
  have z : c ≠ D := ne_of_none q n
  rw [off_ne z, b c z]; exact q
theorem off_but2 {p th : Addr} {H H' : Hp} (e : But p H H') : But p (off H th) (off H' th) := fun c o h q => by
  by_cases z : c = th
  · rw [z, off_at] at q; cases q
  · rw [off_ne z] at q ⊢; exact e c o h q
/-- what stands all through a turn: the pen, the book, the things in their list -/
structure Sw (w : World) (p pc bk rr : Addr) (b : Int) (ns : List Str) (rows : List (List PyData)) (kvs : List (Key × V)) (t : Nat) (th : Addr) (n : Nat) (H : Hp) : Prop where
  pen : PenD H p pc t
  bks : BkS w p bk rr b ns rows kvs (off H th)
  thp : th ≠ p
  thc : th ≠ pc
  lst : ∃ vs : List V, H th = some (.lst vs) ∧ vs.length ≤ n ∧ ∀ v ∈ vs, DX w p SB (off H th) v
section
variable {w : World} {p pc bk rr th : Addr} {b : Int} {ns : List Str} {rows : List (List PyData)} {kvs : List (Key × V)} {t u n m : Nat} {H H' : Hp}
theorem Sw.but (S : Sw w p pc bk rr b ns rows kvs t th n H) (e : But p H H') (P : PenD H' p pc u) : Sw w p pc bk rr b ns rows kvs u th n H' := by
  obtain ⟨vs, h1, h2, h3⟩ := S.lst
  exact ⟨P, S.bks.but (off_but2 e), S.thp, S.thc, vs, e _ _ S.thp h1, h2, fun v hv => (h3 v hv).but (off_but2 e)⟩
theorem Sw.same (S : Sw w p pc bk rr b ns rows kvs t th n H) (e : Same H H') (l : t ≤ u) : Sw w p pc bk rr b ns rows kvs u th n H' := S.but (But.of e) (S.pen.same e l)
theorem Sw.cat (S : Sw w p pc bk rr b ns rows kvs t th n H) {vs ys : List V} {q : Addr} (hv : H th = some (.lst vs)) (nq : H q = none) (hy : ∀ y ∈ ys, DX w p SB H y) (l : ys.length ≤ m) : Sw w p pc bk rr b ns rows kvs t q (n + m) (upd H q (.lst (vs ++ ys))) := by
  obtain ⟨vs', h1, h2, h3⟩ := S.lst
  rw [hv] at h1
  cases h1
  have sq : Same H (off (upd H q (.lst (vs ++ ys))) q) := same_offD nq fun c hc => upd_ne hc
  have b1 : But p (off H th) (off (upd H q (.lst (vs ++ ys))) q) := But.of (off_same.trans sq)
  refine ⟨S.pen.same (Same.upd nq) (Nat.le_refl _), S.bks.but b1, S.pen.not nq, fun z => S.pen.at_c (by rw [← z]; exact nq), _, upd_same, by rw [List.length_append]; omega, fun v hv => ?_⟩
  rcases List.mem_append.mp hv with h | h
  · exact (h3 v h).but b1
  · exact (hy v h).but (But.of sq)
theorem Sw.app (S : Sw w p pc bk rr b ns rows kvs t th n H) {vs : List V} {y : V} (hv : H th = some (.lst vs)) (hy : DX w p SB (off H th) y) : Sw w p pc bk rr b ns rows kvs t th (n + 1) (upd H th (.lst (vs ++ [y]))) := by
  obtain ⟨vs', h1, h2, h3⟩ := S.lst
  rw [hv] at h1
  cases h1
  refine ⟨S.pen.agree S.thp S.thc (fun c hc => upd_ne hc) (Nat.le_refl _), by rw [off_upd]; exact S.bks, S.thp, S.thc, _, upd_same, by rw [List.length_append]; show vs.length + 1 ≤ n + 1; omega, fun v hv => ?_⟩
  rw [off_upd]
  rcases List.mem_append.mp hv with h | h
  · exact h3 v h
  · rw [List.mem_singleton.mp h]; exact hy
end
/-! data that hold no growing list -/
mutual
theorem Dx.offL {w : World} {G : Hp} {a : Addr} {od : Obj} {xs : List V} (e : G a = some (.frz od (.lst xs))) : ∀ {v : V} {d : PyData}, Dx w G v d → Dx w (off G a) v d
  | _, _, .non => .non
  | _, _, .bl b => .bl b
  | _, _, .int i => .int i
  | _, _, .str x => .str x
  | _, _, .lst h t => .lst (by rw [off_ne fun z => by rw [z, e] at h; cases h]; exact h) (DxAll.offL e t)
  | _, _, .tup h t => .tup (by rw [off_ne fun z => by rw [z, e] at h; cases h]; exact h) (DxAll.offL e t)
  | _, _, .dct h t u => .dct (by
      obtain ⟨od', o', es, ep, g, _, _, _, _, du⟩ := id h
      exact df_leaf h g (by
        rw [off_ne fun z => by
          rw [z, e] at g
          cases g
          rcases du with ⟨_, du⟩ | ⟨_, _, du⟩ <;> cases du]
        exact g) fun x hx => (h.keyv x hx).up fun c xs q => by rw [off_ne fun z => by rw [z, e] at q; cases q]; exact q) (DxAll.offL e t) (DxAll.offL e u)
theorem DxAll.offL {w : World} {G : Hp} {a : Addr} {od : Obj} {xs : List V} (e : G a = some (.frz od (.lst xs))) : ∀ {vs : List V} {ds : List PyData}, DxAll w G vs ds → DxAll w (off G a) vs ds
  | _, _, .nil => .nil
  | _, _, .cons h t => .cons (Dx.offL e h) (DxAll.offL e t)
end
theorem but_off {p D : Addr} {H H' : Hp} (b : ∀ c o, c ≠ p → c ≠ D → H c = some o → H' c = some o) : But p (off H D) (off H' D) := fun c o h q => by
  by_cases z : c = D
  · rw [z, off_at] at q; cases q
  · rw [off_ne z] at q ⊢; exact b c o h z q
theorem off_comm {p D : Addr} {H H' : Hp} (b : ∀ c, c ≠ D → H' c = H c) : Same (off (off H p) D) (off (off H' D) p) := fun c o q => by
  by_cases z : c = D
  · rw [z, off_at] at q; cases q
  · rw [off_ne z] at q
    by_cases y : c = p
    · rw [y, off_at] at q; cases q
    · rw [off_ne y] at q
      rw [off_ne y, off_ne z, b c z]; exact q
/-! the things by themselves -/
def tr1 (i : Int) (x : Str) (n m : Int) : PyData := .tuple [.int i, .str x, .tuple [.int n, .int m]]
theorem sd_tr {i n m : Int} {x : Str} (hx : Sz 4000 2 (.str x)) (h1 : i.natAbs ≤ 1000) (h2 : n.natAbs ≤ 1000) (h3 : m.natAbs ≤ 1000) : Sz 36036 4 (tr1 i x n m) := by
  refine sd_t33 (fun d hd => ?_) (by show 3 ≤ 3; decide)
  simp only [List.mem_cons, List.not_mem_nil, or_false] at hd
  rcases hd with rfl | rfl | rfl
  · exact (sd_i h1).up (by decide) (by decide)
  · exact hx.up (by decide) (by decide)
  · refine sd_t3 (fun d hd => ?_) (by show 2 ≤ 3; decide)
    simp only [List.mem_cons, List.not_mem_nil, or_false] at hd
    rcases hd with rfl | rfl
    · exact sd_i h2
    · exact sd_i h3
def first9 : List PyData := [.none, .tuple [], .int 0, .str "a", .list [], .dict [], .tuple [.int 2, .dict []], .tuple [.int 2, .dict [(.str "a", .tuple [])]], .tuple [.int 2, .dict [(.str "a", .tuple [tr1 0 "a" 1 1])]]]
theorem sd_e : Sz 4000 2 (.tuple []) := s1_tup0 (fun _ h => absurd h List.not_mem_nil) (by decide)
theorem sd_d : Sz 4000 2 (.dict []) := ⟨by decide +kernel, by decide +kernel, by decide +kernel⟩
theorem first9_ok : ∀ d ∈ first9, SB d := by
  intro d hd
  unfold first9 at hd
  simp only [List.mem_cons, List.not_mem_nil, or_false] at hd
  rcases hd with rfl | rfl | rfl | rfl | rfl | rfl | rfl | rfl | rfl
  · exact sb_flat (s0_non.up (by decide) (by decide)) fun _ _ e => nomatch e
  · exact sb_flat (sd_e.up (by decide) (by decide)) fun _ _ e => by injection e with e; cases e
  · exact sb_flat ((sd_i (by decide)).up (by decide) (by decide)) fun _ _ e => nomatch e
  · exact sb_flat (sd_ab.1.up (by decide) (by decide)) fun _ _ e => nomatch e
  · exact sb_flat ((s1_lst0 (fun _ h => absurd h List.not_mem_nil) (by decide)).up (by decide) (by decide)) fun _ _ e => nomatch e
  · exact sb_flat (sd_d.up (by decide) (by decide)) fun _ _ e => nomatch e
  · exact ⟨(sz_two (sd_i (i := 2) (by decide)) sd_d).up (by decide) (by decide), fine_dct fun _ h => absurd h List.not_mem_nil⟩
  · exact sb_one (by decide) (sd_e.up (by decide) (by decide))
  · exact sb_one (by decide) (sd_t13 (fun d hd => by rw [List.mem_singleton.mp hd]; exact sd_tr sd_ab.1 (by decide) (by decide) (by decide)) (by show 1 ≤ 13; decide))
def two1 (b : Int) : List PyData := [.tuple [.int b, .dict [(.str "a", .tuple [.tuple [.int 0, .str "a"]])]], .tuple [.int b, .dict [(.str "a", .tuple [.tuple [.int 0, .str "a"], tr1 1 "a" 1 1])]]]
def two2 (b : Int) : List PyData := [.tuple [.int b, .dict [(.str "a", .tuple [.int 0, .str "a", .tuple [.int 1, .int 1]])]], .tuple [.int b, .dict [(.str "a", .tuple [.tuple [.bool true, .str "a", .tuple [.int 1, .int 1]]])]]]
def lastD (m : Int) : PyData := .tuple [.int 2, .dict [(.str "a", .tuple [tr1 0 "a" 1 m, tr1 1 "a" (m - 1) m])]]
theorem sd_p : Sz 36036 4 (.tuple [.int 0, .str "a"]) := (sd_t3 (fun d hd => by
  simp only [List.mem_cons, List.not_mem_nil, or_false] at hd
  rcases hd with rfl | rfl
  · exact sd_i (by decide)
  · exact sd_ab.1) (by show 2 ≤ 3; decide)).up (by decide) (by decide)
theorem two1_ok {b : Int} (hb : b.natAbs ≤ 1000) : ∀ d ∈ two1 b, SB d := by
  intro d hd
  unfold two1 at hd
  simp only [List.mem_cons, List.not_mem_nil, or_false] at hd
  rcases hd with rfl | rfl
  · exact sb_one hb (sd_t13 (fun d hd => by rw [List.mem_singleton.mp hd]; exact sd_p) (by show 1 ≤ 13; decide))
  · exact sb_one hb (sd_t13 (fun d hd => by
      simp only [List.mem_cons, List.not_mem_nil, or_false] at hd
      rcases hd with rfl | rfl
      · exact sd_p
      · exact sd_tr sd_ab.1 (by decide) (by decide) (by decide)) (by show 2 ≤ 13; decide))
theorem two2_ok {b : Int} (hb : b.natAbs ≤ 1000) : ∀ d ∈ two2 b, SB d := by
  intro d hd
  unfold two2 at hd
  simp only [List.mem_cons, List.not_mem_nil, or_false] at hd
  have pr : Sz 12009 3 (.tuple [.int 1, .int 1]) := sd_t3 (fun d hd => by
    simp only [List.mem_cons, List.not_mem_nil, or_false] at hd
    rcases hd with rfl | rfl <;> exact sd_i (by decide)) (by show 2 ≤ 3; decide)
  rcases hd with rfl | rfl
  · exact sb_one hb ((sd_tr (i := 0) (n := 1) (m := 1) sd_ab.1 (by decide) (by decide) (by decide)).up (by decide) (by decide))
  · exact sb_one hb (sd_t13 (fun d hd => by
      rw [List.mem_singleton.mp hd]
      refine sd_t33 (fun d hd => ?_) (by show 3 ≤ 3; decide)
      simp only [List.mem_cons, List.not_mem_nil, or_false] at hd
      rcases hd with rfl | rfl | rfl
      · exact s0_bl.up (by decide) (by decide)
      · exact sd_ab.1.up (by decide) (by decide)
      · exact pr) (by show 1 ≤ 13; decide))
theorem lastD_ok {m : Int} (h0 : 1 ≤ m) (h1 : m ≤ 900) : SB (lastD m) :=
  sb_one (by decide) (sd_t13 (fun d hd => by
    simp only [List.mem_cons, List.not_mem_nil, or_false] at hd
    rcases hd with rfl | rfl
    · exact sd_tr sd_ab.1 (by decide) (by decide) (by omega)
    · exact sd_tr sd_ab.1 (by decide) (by omega) (by omega)) (by show 2 ≤ 13; decide))
def oddL : List PyData := [.none, .int 0, .bool true, .str "", .str "a", .tuple [], .list [], .dict [], .tuple [.tuple [.int 0, .int 0]]]
theorem oddL_ok {b : Int} (hb : b.natAbs ≤ 1000) : ∀ d ∈ oddL, SB (.tuple [.int b, d]) := by
  intro d hd
  unfold oddL at hd
  simp only [List.mem_cons, List.not_mem_nil, or_false] at hd
  have one : ∀ {d : PyData}, Sz 12009 3 d → (∀ ds, d ≠ .dict ds) → SB (.tuple [.int b, d]) := fun h n =>
    ⟨(sz_two ((sd_i hb).up (Nat.le_refl _) (by decide)) h).up (by decide) (by decide), fine_no fun _ _ e => by injection e with e; injection e with _ e; injection e with e _; exact n _ e⟩
  rcases hd with rfl | rfl | rfl | rfl | rfl | rfl | rfl | rfl | rfl
  · exact one (s0_non.up (by decide) (by decide)) fun _ e => nomatch e
  · exact one ((sd_i (by decide)).up (by decide) (by decide)) fun _ e => nomatch e
  · exact one (s0_bl.up (by decide) (by decide)) fun _ e => nomatch e
  · exact one ((s1_text (by decide +kernel)).up (by decide) (by decide)) fun _ e => nomatch e
  · exact one (sd_ab.1.up (by decide) (by decide)) fun _ e => nomatch e
  · exact one (sd_e.up (by decide) (by decide)) fun _ e => nomatch e
  · exact one ((s1_lst0 (fun _ h => absurd h List.not_mem_nil) (by decide)).up (by decide) (by decide)) fun _ e => nomatch e
  · exact ⟨(sz_two (sd_i hb) sd_d).up (by decide) (by decide), fine_dct fun _ h => absurd h List.not_mem_nil⟩
  · exact one (sd_t3 (fun d hd => by
      rw [List.mem_singleton.mp hd]
      exact s1_pair (by decide) (by decide)) (by show 1 ≤ 3; decide)) fun _ e => nomatch e
end My

set_option linter.all false
namespace My
open PySem PySem.Spec PyProof.Rows L2
/-- a triple where it stands -/
def TrAt (H : Hp) (q : Addr) (t : Tr) : Prop := ∃ pr, H q = some (.tup [.int t.1.1, .str t.1.2, .ref pr]) ∧ H pr = some (.tup [.int t.2.1, .int t.2.2])
theorem TrAt.up {H H' : Hp} {q : Addr} {t : Tr} (h : TrAt H q t) (e : ∀ c ys, H c = some (.tup ys) → H' c = some (.tup ys)) : TrAt H' q t := by
  obtain ⟨pr, h1, h2⟩ := h
  exact ⟨pr, e _ _ h1, e _ _ h2⟩
theorem TrAt.dx {w : World} {G : Hp} {q : Addr} {t : Tr} (h : TrAt G q t) : Dx w G (.ref q) (trD t) := by
  obtain ⟨pr, h1, h2⟩ := h
  exact .tup h1 (.cons (.int _) (.cons (.str _) (.cons (.tup h2 (.cons (.int _) (.cons (.int _) .nil))) .nil)))
def TrS (t : Tr) : Prop := t.1.1.natAbs ≤ 1000 ∧ Sz 4000 2 (.str t.1.2) ∧ t.2.1.natAbs ≤ 1000 ∧ t.2.2.natAbs ≤ 1000
theorem TrS.sz {t : Tr} (h : TrS t) : Sz 36036 4 (trD t) := sd_tr h.2.1 h.1 h.2.2.1 h.2.2.2
/-- the row that stands in a list -/
structure RwS (H : Hp) (rl : Addr) : Prop where
  ex : ∃ zs : List (V × PyData), H rl = some (.lst (zs.map (·.1))) ∧ zs.length ≤ 13 ∧ ∀ z ∈ zs, ∃ q t, z = (.ref q, trD t) ∧ TrAt H q t ∧ TrS t
theorem RwS.same {H H' : Hp} {rl : Addr} (h : RwS H rl) (e : Same H H') : RwS H' rl := by
  obtain ⟨zs, h1, h2, h3⟩ := h.ex
  exact ⟨zs, e _ _ h1, h2, fun z hz => by
    obtain ⟨q, t, e1, e2, e3⟩ := h3 z hz
    exact ⟨q, t, e1, e2.up fun c ys g => e _ _ g, e3⟩⟩
theorem ab_at {i : Int} (h0 : 0 ≤ i) (h1 : i < 2) : ∃ c, atI ("ab" : Str).cps.toList i = some c ∧ Sz 4000 2 (.str ⟨#[c]⟩) := by
  have h : i = 0 ∨ i = 1 := by omega
  rcases h with rfl | rfl
  · exact ⟨97, rfl, s1_text (by decide +kernel)⟩
  · exact ⟨98, rfl, s1_text (by decide +kernel)⟩
theorem dx_items {w : World} {p : Addr} {H : Hp} {S : PyData → Prop} {G : Hp} {vs : List V} {D : List PyData} (h : DxAll w G vs D) (s : Same G (off H p)) (ok : ∀ d ∈ D, S d) : ∀ v ∈ vs, DX w p S H v := fun v hv => by
  obtain ⟨d, di, dd⟩ := dx_in h hv
  exact ⟨d, dd.mono s, ok d di⟩
section
variable {P : Program} {w : World} {K : PySem.W.Frag} {mg : Str → Option Value} {base : Heap}
theorem scLaw9 : FnScope ["script", "pen", "turn", "base", "book", "things", "many", "row", "thing", "before", "k", "strange"] ["script"] (defScope sLaw9) := ⟨rfl, rfl, rfl, by decide +kernel, rfl, by decide +kernel, by decide +kernel⟩
theorem ok_law9 {f fBg fT fSd fBt fIs fDu fEq : Addr} {fd fdBg fdT fdSd fdBt fdIs fdDu fdEq : FuncData} (F : Fun K "law" "law" sLaw9 f fd) (T : TxL9 mg)
    (FBg : Fun K "_law_begin" "_law_begin" sBegin fBg fdBg) (GBg : FnOk P w K mg base CX0 1 fBg fdBg ["script"] (spBegin K)) (bBg : Binds K fdBg ["script"] []) (gBg : mg "_law_begin" = some (.ref fBg))
    (FT : Fun K "_law_draw" "_law_draw" sDraw fT fdT) (GT : FnOk P w K mg base CX0 2 fT fdT ["pen", "many"] spDraw) (bT : Binds K fdT ["pen", "many"] []) (gT : mg "_law_draw" = some (.ref fT))
    (FSd : Fun K "_law_shared" "_law_shared" sShared fSd fdSd) (GSd : FnOk P w K mg base CX0 5 fSd fdSd ["pen", "base", "many", "most"] (spShared w)) (bSd : Binds K fdSd ["pen", "base", "many", "most"] []) (gSd : mg "_law_shared" = some (.ref fSd))
    (FBt : Fun K "_law_bent_book" "_law_bent_book" sBentBk fBt fdBt) (GBt : FnOk P w K mg base CX0 6 fBt fdBt ["pen", "book"] (spBentBk w)) (bBt : Binds K fdBt ["pen", "book"] []) (gBt : mg "_law_bent_book" = some (.ref fBt))
    (FIs : Fun K "is_shared" "is_shared" sShd fIs fdIs) (GIs : FnOk P w K mg base CX0 5 fIs fdIs ["thing"] (spShd w)) (bIs : Binds K fdIs ["thing"] []) (gIs : mg "is_shared" = some (.ref fIs))
    (FDu : Fun K "_law_is_due" "_law_is_due" sDue fDu fdDu) (GDu : FnOk P w K mg base CX0 4 fDu fdDu ["thing"] (spDue w)) (bDu : Binds K fdDu ["thing"] []) (gDu : mg "_law_is_due" = some (.ref fDu))
    (FEq : Fun K "_law_equal" "_law_equal" sEqual fEq fdEq) (GEq : FnG P w K mg base 1 fEq fdEq ["found", "due"] (spEqual w)) (bEq : Binds K fdEq ["found", "due"] []) (gEq : mg "_law_equal" = some (.ref fEq)) :
    AtTop P w K mg base f fd ["script"] (spLaw K) := by
  refine top_ok (k := 6) F scLaw9 (fun vs H Q E h => ?_) ⟨rfl, by decide, by decide⟩ (fun cdv out s H vs Q E hr h => ?_)
  · obtain ⟨a, ns, rfl, _⟩ := h
    rfl
  · obtain ⟨a, ns0, rfl, hS, hlen, k⟩ := h
    have hr1 : Room 1 _ := hr.mono (by decide)
    have hr2 : Room 2 _ := hr.mono (by decide)
    have hr4 : Room 4 _ := hr.mono (by decide)
    have hr5 : Room 5 _ := hr.mono (by decide)
    refine ⟨_, (pss_cons (ps_set (i := 1) scLaw9.nd rfl (Or.inr rfl) (pe_call GBg hr1 (by rfl) gBg FBg.kp bBg .nil pass0 (pa_cons (pv 0) pa_nil)))
      (pss_cons (ps_for PassesOwn.never rfl (pi_range1 (by rfl) T.range (pa_cons pe_int pa_nil)) (pg_name (i := 2) scLaw9.nd rfl (Or.inl rfl)) (pss_cons (ps_set (i := 3) scLaw9.nd rfl (Or.inr rfl) (pe_op op_add pe_int (pe_call GT hr2 (by rfl) gT FT.kp bT .nil pass0 (pa_cons (pv 1) (pa_cons pe_int pa_nil)))))
      (C8.pss_cut (ps_set (i := 4) scLaw9.nd rfl (Or.inr rfl) (pe_frz (pe_call GSd hr5 (by rfl) gSd FSd.kp bSd .nil pass0 (pa_cons (pv 1) (pa_cons (pv 3) (pa_cons (pe_op op_add pe_int (pe_call GT hr2 (by rfl) gT FT.kp bT .nil pass0 (pa_cons (pv 1) (pa_cons pe_int pa_nil)))) (pa_cons (pe_op op_add pe_int (pe_call GT hr2 (by rfl) gT FT.kp bT .nil pass0 (pa_cons (pv 1) (pa_cons pe_int pa_nil)))) pa_nil)))))))
      (C8.pss_cut (ps_set (i := 5) scLaw9.nd rfl (Or.inl rfl) (pe_lstS (pa_cons (pv 4) (dvs_cons (dv_c dx_non) (dvs_cons (dv_tup dvs_nil (dl_of dl_nil (by show 0 ≤ sizeLine; decide))) (dvs_cons (dv_c dx_int) (dvs_cons (dv_c dx_str) (dvs_cons (dv_c (dx_lst dxs_nil (by show 0 ≤ sizeLine; decide))) (dvs_cons (dv_c dx_dict0) (dvs_cons (dv_tup (dvs_cons (dv_c dx_int) (dvs_cons (dv_c dx_dict0) dvs_nil)) (dl_of (dl_cons (dl_cons dl_nil)) (by show 2 ≤ sizeLine; decide))) (dvs_cons (dv_tup (dvs_cons (dv_c dx_int) (dvs_cons (dv_dct (dv_tup dvs_nil (dl_of dl_nil (by show 0 ≤ sizeLine; decide)))) dvs_nil)) (dl_of (dl_cons (dl_cons dl_nil)) (by show 2 ≤ sizeLine; decide))) (dvs_cons (dv_tup (dvs_cons (dv_c dx_int) (dvs_cons (dv_dct (dv_tup (dvs_cons (dv_tup (dvs_cons (dv_c dx_int) (dvs_cons (dv_c dx_str) (dvs_cons (dv_tup (dvs_cons (dv_c dx_int) (dvs_cons (dv_c dx_int) dvs_nil)) (dl_of (dl_cons (dl_cons dl_nil)) (by show 2 ≤ sizeLine; decide))) dvs_nil))) (dl_of (dl_cons (dl_cons (dl_cons dl_nil))) (by show 3 ≤ sizeLine; decide))) dvs_nil) (dl_of (dl_cons dl_nil) (by show 1 ≤ sizeLine; decide)))) dvs_nil)) (dl_of (dl_cons (dl_cons dl_nil)) (by show 2 ≤ sizeLine; decide))) dvs_nil))))))))))))
      (C8.pss_cut (ps_set (i := 5) scLaw9.nd rfl (Or.inl rfl) (pe_op op_cat (pv 5) (pe_lc (own := [("k", 10)]) (g := gName 10) (tt := tYes) rfl scLaw9.nd (pi_range1 (by rfl) T.range (pa_cons pe_int pa_nil)) (blkOk_by (N := ["script", "pen", "turn", "base", "book", "things", "many", "row", "thing", "before", "k", "strange"]) (sc := defScope sLaw9) (by decide +kernel)) (fun _ _ _ _ _ => (pg_name (i := 10) scLaw9.nd rfl (Or.inl rfl))) (fun _ _ _ _ _ => pts_nil) (fun _ _ _ _ _ => (pe_lock (pe_call GBt hr (by rfl) gBt FBt.kp bBt .nil pass0 (pa_cons (pv 1) (pa_cons (pv 4) pa_nil))))))))
      (pss_cons (ps_set (i := 6) scLaw9.nd rfl (Or.inr rfl) (pe_op op_add pe_int (pe_call GT hr2 (by rfl) gT FT.kp bT .nil pass0 (pa_cons (pv 1) (pa_cons pe_int pa_nil)))))
      (C8.pss_cut (ps_set (i := 7) scLaw9.nd rfl (Or.inl rfl) (pe_callB (show CallR _ _ (rSortX w) from cr_sortedX hr.units) (by rfl) T.sorted boot_sorted (pa_cons (pe_lc (own := [("k", 10)]) (g := gName 10) (tt := tYes) rfl scLaw9.nd (pi_range1 (by rfl) T.range (pa_cons (pv 6) pa_nil)) (blkOk_by (N := ["script", "pen", "turn", "base", "book", "things", "many", "row", "thing", "before", "k", "strange"]) (sc := defScope sLaw9) (by decide +kernel)) (fun _ _ _ _ _ => (pg_name (i := 10) scLaw9.nd rfl (Or.inl rfl))) (fun _ _ _ _ _ => pts_nil) (fun _ _ _ _ _ => (pe_tupS (pa_cons (pe_op op_mod (pv 10) pe_int) (pa_cons (pe_ix (show IxR _ rIxS from ix_str) pe_str (pe_op op_fdivW (pv 10) pe_int) (fun _ _ => rfl)) (pa_cons (pe_tupS (pa_cons pe_int (pa_cons (pv 6) pa_nil))) pa_nil)))))) pa_nil)))
      (C8.pss_cut (ps_expr (pe_bm PySem.F.plainAttrs_list PySem.F.slot_list_append PySem.F.type_list_append mt_append (pv 5) (pa_cons (pe_tupS (pa_cons pe_int (pa_cons (pe_frz (pe_disp (pps_cons pe_str (pe_callTy call_tuple_of (by rfl) T.tuple boot_tuple (pa_cons (pv 7) pa_nil)) (pps_cons pe_str (dv_tup (dvs_cons (dv_tup (dvs_cons (dv_c dx_int) (dvs_cons (dv_c dx_str) (dvs_cons (dv_tup (dvs_cons (dv_c dx_int) (dvs_cons (dv_c dx_int) dvs_nil)) (dl_of (dl_cons (dl_cons dl_nil)) (by show 2 ≤ sizeLine; decide))) dvs_nil))) (dl_of (dl_cons (dl_cons (dl_cons dl_nil))) (by show 3 ≤ sizeLine; decide))) (dvs_cons (dv_tup (dvs_cons (dv_c dx_int) (dvs_cons (dv_c dx_str) (dvs_cons (dv_tup (dvs_cons (dv_c dx_int) (dvs_cons (dv_c dx_int) dvs_nil)) (dl_of (dl_cons (dl_cons dl_nil)) (by show 2 ≤ sizeLine; decide))) dvs_nil))) (dl_of (dl_cons (dl_cons (dl_cons dl_nil))) (by show 3 ≤ sizeLine; decide))) dvs_nil)) (dl_of (dl_cons (dl_cons dl_nil)) (by show 2 ≤ sizeLine; decide))) pps_nil)) (by rfl) (by rfl) (fun z => by cases z) (by show 2 ≤ 15; decide))) pa_nil))) pa_nil)))
      (C8.pss_cut (ps_set (i := 5) scLaw9.nd rfl (Or.inl rfl) (pe_op op_cat (pv 5) (pe_lst (dvs_cons (dv_tup (dvs_cons (dv_v (pv 3)) (dvs_cons (dv_dct (dv_tup (dvs_cons (dv_tup (dvs_cons (dv_c dx_int) (dvs_cons (dv_c dx_str) dvs_nil)) (dl_of (dl_cons (dl_cons dl_nil)) (by show 2 ≤ sizeLine; decide))) dvs_nil) (dl_of (dl_cons dl_nil) (by show 1 ≤ sizeLine; decide)))) dvs_nil)) (dl_of (dl_cons (dl_cons dl_nil)) (by show 2 ≤ sizeLine; decide))) (dvs_cons (dv_tup (dvs_cons (dv_v (pv 3)) (dvs_cons (dv_dct (dv_tup (dvs_cons (dv_tup (dvs_cons (dv_c dx_int) (dvs_cons (dv_c dx_str) dvs_nil)) (dl_of (dl_cons (dl_cons dl_nil)) (by show 2 ≤ sizeLine; decide))) (dvs_cons (dv_tup (dvs_cons (dv_c dx_int) (dvs_cons (dv_c dx_str) (dvs_cons (dv_tup (dvs_cons (dv_c dx_int) (dvs_cons (dv_c dx_int) dvs_nil)) (dl_of (dl_cons (dl_cons dl_nil)) (by show 2 ≤ sizeLine; decide))) dvs_nil))) (dl_of (dl_cons (dl_cons (dl_cons dl_nil))) (by show 3 ≤ sizeLine; decide))) dvs_nil)) (dl_of (dl_cons (dl_cons dl_nil)) (by show 2 ≤ sizeLine; decide)))) dvs_nil)) (dl_of (dl_cons (dl_cons dl_nil)) (by show 2 ≤ sizeLine; decide))) dvs_nil)))))
      (C8.pss_cut (ps_set (i := 5) scLaw9.nd rfl (Or.inl rfl) (pe_op op_cat (pv 5) (pe_lst (dvs_cons (dv_tup (dvs_cons (dv_v (pv 3)) (dvs_cons (dv_dct (dv_tup (dvs_cons (dv_c dx_int) (dvs_cons (dv_c dx_str) (dvs_cons (dv_tup (dvs_cons (dv_c dx_int) (dvs_cons (dv_c dx_int) dvs_nil)) (dl_of (dl_cons (dl_cons dl_nil)) (by show 2 ≤ sizeLine; decide))) dvs_nil))) (dl_of (dl_cons (dl_cons (dl_cons dl_nil))) (by show 3 ≤ sizeLine; decide)))) dvs_nil)) (dl_of (dl_cons (dl_cons dl_nil)) (by show 2 ≤ sizeLine; decide))) (dvs_cons (dv_tup (dvs_cons (dv_v (pv 3)) (dvs_cons (dv_dct (dv_tup (dvs_cons (dv_tup (dvs_cons (dv_c dx_bl) (dvs_cons (dv_c dx_str) (dvs_cons (dv_tup (dvs_cons (dv_c dx_int) (dvs_cons (dv_c dx_int) dvs_nil)) (dl_of (dl_cons (dl_cons dl_nil)) (by show 2 ≤ sizeLine; decide))) dvs_nil))) (dl_of (dl_cons (dl_cons (dl_cons dl_nil))) (by show 3 ≤ sizeLine; decide))) dvs_nil) (dl_of (dl_cons dl_nil) (by show 1 ≤ sizeLine; decide)))) dvs_nil)) (dl_of (dl_cons (dl_cons dl_nil)) (by show 2 ≤ sizeLine; decide))) dvs_nil)))))
      (C8.pss_cut (ps_set (i := 5) scLaw9.nd rfl (Or.inl rfl) (pe_op op_cat (pv 5) (pe_lc (own := [("strange", 11)]) (g := gName 11) (tt := tYes) rfl scLaw9.nd (pi_list (pe_lst (dxs_cons dx_non (dxs_cons dx_int (dxs_cons dx_bl (dxs_cons dx_str (dxs_cons dx_str (dxs_cons (dx_tup dxs_nil (by show 0 ≤ sizeLine; decide)) (dxs_cons (dx_lst dxs_nil (by show 0 ≤ sizeLine; decide)) (dxs_cons dx_dict0 (dxs_cons (dx_tup (dxs_cons (dx_tup (dxs_cons dx_int (dxs_cons dx_int dxs_nil)) (by show 2 ≤ sizeLine; decide)) dxs_nil) (by show 1 ≤ sizeLine; decide)) dxs_nil))))))))))) (blkOk_by (N := ["script", "pen", "turn", "base", "book", "things", "many", "row", "thing", "before", "k", "strange"]) (sc := defScope sLaw9) (by decide +kernel)) (fun _ _ _ _ _ => (pg_name (i := 11) scLaw9.nd rfl (Or.inl rfl))) (fun _ _ _ _ _ => pts_nil) (fun _ _ _ _ _ => (pe_tupS (pa_cons (pv 3) (pa_cons (pv 11) pa_nil)))))))
      (pss_cons (ps_set (i := 6) scLaw9.nd rfl (Or.inr rfl) (pe_op op_add pe_int (pe_call GT hr2 (by rfl) gT FT.kp bT .nil pass0 (pa_cons (pv 1) (pa_cons pe_int pa_nil)))))
      (C8.pss_cut (ps_expr (pe_bm PySem.F.plainAttrs_list PySem.F.slot_list_append PySem.F.type_list_append mt_append (pv 5) (pa_cons (dv_tup (dvs_cons (dv_c dx_int) (dvs_cons (dv_dct (dv_tup (dvs_cons (dv_tup (dvs_cons (dv_c dx_int) (dvs_cons (dv_c dx_str) (dvs_cons (dv_tup (dvs_cons (dv_c dx_int) (dvs_cons (dv_v (pv 6)) dvs_nil)) (dl_of (dl_cons (dl_cons dl_nil)) (by show 2 ≤ sizeLine; decide))) dvs_nil))) (dl_of (dl_cons (dl_cons (dl_cons dl_nil))) (by show 3 ≤ sizeLine; decide))) (dvs_cons (dv_tup (dvs_cons (dv_c dx_int) (dvs_cons (dv_c dx_str) (dvs_cons (dv_tup (dvs_cons (dv_vm (pv 6) pe_int) (dvs_cons (dv_v (pv 6)) dvs_nil)) (dl_of (dl_cons (dl_cons dl_nil)) (by show 2 ≤ sizeLine; decide))) dvs_nil))) (dl_of (dl_cons (dl_cons (dl_cons dl_nil))) (by show 3 ≤ sizeLine; decide))) dvs_nil)) (dl_of (dl_cons (dl_cons dl_nil)) (by show 2 ≤ sizeLine; decide)))) dvs_nil)) (dl_of (dl_cons (dl_cons dl_nil)) (by show 2 ≤ sizeLine; decide))) pa_nil)))
      (pss_one (ps_for PassesOwn.never rfl (pi_list (pv 5)) (pg_name (i := 8) scLaw9.nd rfl (Or.inl rfl)) (pss_cons (ps_set (i := 9) scLaw9.nd rfl (Or.inl rfl) (pe_callB (cr_reprX rfl hr.repr) (by rfl) T.repr boot_repr (pa_cons (pv 8) pa_nil)))
      (pss_one (ps_if (PW.pt (pw_or (pt_not (pt_val (pe_callG GEq rfl hr1 (by rfl) gEq FEq.kp bEq (pa_cons (pe_call GIs hr5 (by rfl) gIs FIs.kp bIs .nil pass0 (pa_cons (pv 8) pa_nil)) (pa_cons (pe_call GDu hr4 (by rfl) gDu FDu.kp bDu .nil pass0 (pa_cons (pv 8) pa_nil)) pa_nil))))) (pw_or1 (pt_cmpR op_ne (pe_callB (cr_reprX rfl hr.repr) (by rfl) T.repr boot_repr (pa_cons (pv 8) pa_nil)) (pv 9) (nomark _))))) (pss_one (ps_ret pe_bl)) pss_nil))))))))))))))))))
      (pss_one (ps_ret pe_bl)))), ?_⟩
    refine ⟨_, rfl, a, ns0, rfl, hS, hlen, fun p pc H1 np s1 C1 => ?_⟩
    refine ⟨5, rfl, by decide, by decide, for_range (n := 5) (fun i σ H2 => ∃ (x2 x3 x4 x5 x6 x7 x8 x9 x10 x11 : Option V), σ = [some (.ref a), some (.ref p), x2, x3, x4, x5, x6, x7, x8, x9, x10, x11] ∧ PenD H2 p pc (10000 * i)) ⟨none, none, none, none, none, none, none, none, none, none, rfl, C1⟩ ?_ ?_⟩
    · rintro i σ H2 hi ⟨x2, x3, x4, x5, x6, x7, x8, x9, x10, x11, rfl, C2⟩
      refine ⟨_, rfl, p, pc, 9, _, rfl, by decide, by decide, C2, by omega, fun m H3 m0 m1 b3 C3 => ?_⟩
      refine ⟨_, _, rfl, rfl, ?_⟩
      dsimp only
      generalize hb : 2 + m = b
      have b0 : 2 ≤ b := by omega
      have b1 : b ≤ 10 := by omega
      have bn : b.natAbs ≤ 1000 := by omega
      -- book
      refine ⟨(fun σ HA => ∃ (bk rr : Addr) (ns : List Str) (rows : List (List PyData)) (kvs : List (Key × V)) (y2 : Option V), σ = [some (.ref a), some (.ref p), y2, some (.int b), some (.ref bk), x5, x6, x7, x8, x9, x10, x11] ∧ PenD HA p pc (10000 * i + 600) ∧ BkS w p bk rr b ns rows kvs HA), ?_, ?_⟩
      · refine ⟨_, rfl, _, rfl, _, rfl, p, pc, 6, _, rfl, by decide, by decide, C3, by omega, fun m2 H4 m20 m21 b4 C4 => ?_⟩
        obtain ⟨mn, rfl⟩ : ∃ c : Nat, m2 = (c : Int) := ⟨m2.toNat, by omega⟩
        refine ⟨_, _, rfl, rfl, _, rfl, p, pc, 6, _, rfl, by decide, by decide, C4, by omega, fun m3 H5 m30 m31 b5 C5 => ?_⟩
        obtain ⟨mm, rfl⟩ : ∃ c : Nat, m3 = (c : Int) := ⟨m3.toNat, by omega⟩
        refine ⟨_, _, rfl, rfl, ?_⟩
        refine ⟨p, pc, b, 1 + mn, 1 + mm, _, by rw [Int.natCast_add, Int.natCast_add]; rfl, b0, b1, by omega, by omega, by omega, by omega, C5, by omega, fun bk rr ns rows kvs H8 b8 C8 nrr hbk hrr ekeys nok vals len8 rws8 => ?_⟩
        refine ⟨rr, .inl ⟨kvs, hrr, fun od df => ?_⟩⟩
        have rrp : rr ≠ p := fun z => C5.some (by rw [← z]; exact nrr)
        have rrc : rr ≠ pc := fun z => C5.at_c (by rw [← z]; exact nrr)
        have bkr : bk ≠ rr := fun z => by rw [z, hrr] at hbk; cases hbk
        have ag : ∀ c, c ≠ rr → upd H8 rr (.frz od (.dK kvs)) c = H8 c := fun c hc => upd_ne hc
        have CA := C8.agree rrp rrc ag (Nat.le_refl _)
        have ntup : ∀ c ys, H8 c = some (.tup ys) → off (upd H8 rr (.frz od (.dK kvs))) p c = some (.tup ys) := fun c ys g => by
          have c1 : c ≠ rr := fun z => by rw [z, hrr] at g; cases g
          exact PenD.tup_off CA (by rw [ag c c1]; exact g)
        refine ⟨bk, rr, ns, rows, kvs, _, rfl, CA.same (Same.refl _) (by omega), ntup _ _ hbk, ⟨od, ?_⟩, ?_, ekeys, ?_, b0, b1, fun z => ?_, ?_, nok.ok, len8, rws8⟩
        · rw [off_ne rrp]; exact upd_same
        · refine df_leaf df upd_same (by rw [off_ne rrp]; exact upd_same) fun x hx => ?_
          obtain ⟨y, hy, rfl⟩ := List.mem_map.mp hx
          exact kN_kv _ _
        · exact vals.mono fun c o g => by
            obtain ⟨ys, rfl, e⟩ := tupG_of g
            exact ntup c ys e
        · have := nok.len
          rw [z, List.length_nil] at this; omega
        · have := nok.len
          omega
      rintro σ HA ⟨bk, rr, ns, rows, kvs, y2, rfl, CA, SA⟩
      clear C1 C2 C3 b3 hb
      -- the first things
      refine ⟨(fun σ HB => ∃ (th : Addr) (y2 : Option V), σ = [some (.ref a), some (.ref p), y2, some (.int b), some (.ref bk), some (.ref th), x6, x7, x8, x9, x10, x11] ∧ Sw w p pc bk rr b ns rows kvs (10000 * i + 600) th 10 HB), ?_, ?_⟩
      · refine ⟨_, rfl, first9, rfl, off HA p, off_same, fun vs1 G1 Ha m1 d1 => ?_⟩
        have l1 : vs1.length = 9 := d1.len
        refine ⟨by show vs1.length + 1 ≤ sizeLine; rw [l1]; decide, fun th Hb sb nth hth => ?_⟩
        have sab := m1.hh.trans sb
        have CB := CA.same sab (Nat.le_refl _)
        have thp : th ≠ p := (CA.same m1.hh (Nat.le_refl _)).not nth
        have thc : th ≠ pc := fun z => (CA.same m1.hh (Nat.le_refl _)).at_c (by rw [← z]; exact nth)
        have s1 : Same Ha (off Hb th) := fun c o g => by
          rw [off_ne (ne_of_none g nth)]; exact sb _ _ g
        have itm := dx_items (p := p) (H := Ha) d1 (nw_off m1 CA.some) first9_ok
        refine ⟨th, _, rfl, CB, SA.but (But.of (m1.hh.trans s1)), thp, thc, _, hth, by show vs1.length + 1 ≤ 10; omega, fun v hv => ?_⟩
        rcases List.mem_cons.mp hv with rfl | hv
        · exact SA.book.but (But.of (m1.hh.trans s1))
        · exact (itm v hv).but (But.of s1)
      rintro σ HB ⟨th, y2', rfl, SB'⟩
      clear SA CA
      -- bent books
      refine ⟨(fun σ HC => ∃ (th : Addr) (y2 : Option V), σ = [some (.ref a), some (.ref p), y2, some (.int b), some (.ref bk), some (.ref th), x6, x7, x8, x9, x10, x11] ∧ Sw w p pc bk rr b ns rows kvs (10000 * i + 1000) th 18 HC), ?_, ?_⟩
      · refine ⟨_, rfl, 8, rfl, by decide, by decide, fun D nD => ?_⟩
        have Dp : D ≠ p := SB'.pen.not nD
        have Dc : D ≠ pc := fun z => SB'.pen.at_c (by rw [← z]; exact nD)
        have ag0 : ∀ c, c ≠ D → upd HB D (.lst []) c = HB c := fun c hc => upd_ne hc
        have bk0 : BkS w p bk rr b ns rows kvs (off (off (upd HB D (.lst [])) D) th) := SB'.bks.but (off_but2 (But.of (same_offD nD ag0)))
        refine lc_it (walk_range (lo := 0) (n := 8)) (fun j Hi => j ≤ 8 ∧ PenD Hi p pc (10000 * i + 600 + 40 * j) ∧ But p HB Hi ∧ BkS w p bk rr b ns rows kvs (off (off Hi D) th) ∧ ∃ ys : List V, Hi D = some (.lst ys) ∧ ys.length = j ∧ ∀ y ∈ ys, DX w p SB (off Hi D) y)
          ⟨Nat.zero_le _, SB'.pen.agree Dp Dc ag0 (Nat.le_refl _), But.of (Same.upd nD), bk0, [], upd_same, rfl, fun _ h => nomatch h⟩ (fun _ _ _ _ => trivial) ?_ ?_
        · rintro j x Hi Hj hj ⟨_, Pi, bi, Bi, ys, hD, yl, hy⟩ ⟨rfl, hx⟩
          refine ⟨rfl, ?_⟩
          refine ⟨D, .lst ys, hD, trivial, fun od => ?_⟩
          have agL : ∀ c, c ≠ D → upd Hj D (.frz od (.lst ys)) c = Hj c := fun c hc => upd_ne hc
          have oL : But p (off (off Hj D) th) (upd Hj D (.frz od (.lst ys))) := fun c o _ q => by
            have q2 := off_same _ _ q
            have z : c ≠ D := fun z => by rw [z, off_at] at q2; cases q2
            rw [off_ne z] at q2
            rw [agL c z]; exact q2
          refine ⟨_, rfl, _, rfl, p, pc, bk, rr, b, ns, rows, kvs, _, rfl, Pi.agree Dp Dc agL (Nat.le_refl _), by omega, Bi.but oL, fun v H' bL P' dv => ?_⟩
          have hDf : H' D = some (.frz od (.lst ys)) := bL _ _ Dp upd_same
          refine ⟨hDf, ys, upd_same, by rw [sizeLine_eq]; omega, ?_⟩
          have ag : ∀ c, c ≠ D → upd (upd H' D (.lst ys)) D (.lst (ys ++ [v])) c = H' c := fun c hc => by rw [upd_ne hc, upd_ne hc]
          generalize hHn : upd (upd H' D (.lst ys)) D (.lst (ys ++ [v])) = Hn at ag
          have st : ∀ c o, c ≠ p → c ≠ D → Hj c = some o → Hn c = some o := fun c o h1 h2 q => by
            rw [ag c h2]
            exact bL c o h1 (by rw [agL c h2]; exact q)
          refine ⟨by omega, P'.agree Dp Dc ag (by omega), fun c o h1 q => st c o h1 (ne_of_none q nD) (bi c o h1 q), Bi.but (off_but2 (but_off st)), ys ++ [v], by rw [← hHn]; exact upd_same, by rw [List.length_append, yl]; rfl, fun y hyy => ?_⟩
          rcases List.mem_append.mp hyy with h | h
          · exact (hy y h).but (but_off st)
          · rw [List.mem_singleton.mp h]
            obtain ⟨d, dx, sd⟩ := dv
            exact ⟨d, (dx.offL (a := D) (od := od) (xs := ys) (by rw [off_ne Dp]; exact hDf)).mono (off_comm ag), sd⟩
        · rintro Hi ⟨_, Pi, bi, Bi, ys, hD, yl, hy⟩
          have Si := SB'.but bi Pi
          obtain ⟨vs, g1, g2, g3⟩ := Si.lst
          refine ⟨th, D, vs, ys, rfl, rfl, g1, hD, by rw [sizeLine_eq]; omega, fun q nq => ?_⟩
          have := Si.cat (m := 8) g1 nq (fun y h => (hy y h).but (But.of off_same)) (by omega)
          exact ⟨q, _, rfl, this.same (Same.refl _) (by omega)⟩
      rintro σ HC ⟨th2, y3, rfl, SC⟩
      clear SB'
      -- many, row
      refine ⟨_, rfl, p, pc, 3, _, rfl, by decide, by decide, SC.pen, by omega, fun mi H4 m20 m21 b4 C4 => ?_⟩
      obtain ⟨mn, rfl⟩ : ∃ c : Nat, mi = (c : Int) := ⟨mi.toNat, by omega⟩
      refine ⟨_, _, rfl, rfl, ?_⟩
      have S4 := SC.but b4 C4
      clear SC b4 C4
      refine ⟨(fun σ HC => ∃ (rl : Addr) (y2 y10 : Option V), σ = [some (.ref a), some (.ref p), y2, some (.int b), some (.ref bk), some (.ref th2), some (.int (11 + (mn : Int))), some (.ref rl), x8, x9, y10, x11] ∧ Sw w p pc bk rr b ns rows kvs (10000 * i + 1001) th2 18 HC ∧ RwS HC rl), ?_, ?_⟩
      · refine ⟨_, rfl, _, rfl, by omega, by omega, fun D nD => ?_⟩
        refine lc_it (walk_range (lo := 0) (n := (11 + (mn : Int)).toNat)) (fun j Hi => j ≤ 13 ∧ Same H4 Hi ∧ ∃ zs : List (V × PyData), Hi D = some (.lst (zs.map (·.1))) ∧ zs.length = j ∧ ∀ z ∈ zs, ∃ q t, z = (.ref q, trD t) ∧ TrAt Hi q t ∧ TrS t)
          ⟨Nat.zero_le _, Same.upd nD, [], upd_same, rfl, fun _ h => nomatch h⟩ (fun _ _ _ _ => trivial) ?_ ?_
        · rintro j x Hi Hj hj ⟨_, si, zs, hD, zl, hz⟩ ⟨rfl, hx⟩
          replace hx : x = V.int j := hx.trans (by show V.int (0 + (j : Int)) = _; rw [Int.zero_add])
          subst hx
          refine ⟨rfl, ?_⟩
          have j13 : j < 13 := by omega
          have d0 : 0 ≤ (j : Int) / 10 := Int.ediv_nonneg (by omega) (by omega)
          have d1 : (j : Int) / 10 < 2 := by omega
          obtain ⟨c, hc, zc⟩ := ab_at d0 d1
          refine ⟨_, rfl, _, _, rfl, rfl, (by show (0 : Int) < 10; decide), _, rfl, _, _, rfl, rfl, ⟨by decide, log_small (by show (10 : Int).natAbs < 2 ^ 8000; exact Nat.lt_of_le_of_lt (show 10 ≤ 1000 by decide) (by decide)) (by decide)⟩, _, _, c, rfl, rfl, by rw [sizeLine_eq]; decide +kernel, hc, _, rfl, (by show 2 ≤ sizeLine; decide), fun pr Ha sa hpr => ⟨(by show 3 ≤ sizeLine; decide), fun q Hb sb hq => ?_⟩⟩
          have sab := sa.trans sb
          refine ⟨_, sab _ _ hD, by rw [List.length_map, sizeLine_eq]; omega, ?_⟩
          have hDb := sab _ _ hD
          have up : ∀ c ys, Hb c = some (.tup ys) → upd Hb D (.lst (zs.map (·.1) ++ [.ref q])) c = some (.tup ys) := fun c ys g => by
            rw [upd_ne fun z => by rw [z, hDb] at g; cases g]; exact g
          refine ⟨by omega, fun c o g => ?_, zs ++ [(.ref q, trD (((j : Int) % 10, ⟨#[c]⟩), (1, 11 + (mn : Int))))], by rw [upd_same, List.map_append]; rfl, by rw [List.length_append, zl]; rfl, fun z hzz => ?_⟩
          · rw [upd_ne (ne_of_none g nD)]; exact sab _ _ (si _ _ g)
          · rcases List.mem_append.mp hzz with h | h
            · obtain ⟨q', t, e1, e2, e3⟩ := hz z h
              exact ⟨q', t, e1, e2.up fun c ys g => up c ys (sab _ _ g), e3⟩
            · rw [List.mem_singleton.mp h]
              have r0 := Int.emod_nonneg (j : Int) (show (10 : Int) ≠ 0 by decide)
              have r1 := Int.emod_lt_of_pos (j : Int) (show (0 : Int) < 10 by decide)
              exact ⟨q, _, rfl, ⟨pr, up _ _ hq, up _ _ (sb _ _ hpr)⟩, by show ((j : Int) % 10).natAbs ≤ 1000; omega, zc, by show (1 : Int).natAbs ≤ 1000; decide, by show (11 + (mn : Int)).natAbs ≤ 1000; omega⟩
        · rintro Hi ⟨_, si, zs, hD, zl, hz⟩
          refine ⟨D, zs, rfl, hD, fun z h => ?_, fun d hd e he => ?_, .inl fun d hd => ?_, fun z h => ?_, fun sp nsp => ?_⟩
          · obtain ⟨q, t, rfl, e2, _⟩ := hz z h
            exact e2.dx
          · obtain ⟨z, h, rfl⟩ := List.mem_map.mp hd
            obtain ⟨y, h', rfl⟩ := List.mem_map.mp he
            obtain ⟨q, t, rfl, _⟩ := hz z h
            obtain ⟨q', t', rfl, _⟩ := hz y h'
            exact alike_trD t t'
          · obtain ⟨z, h, rfl⟩ := List.mem_map.mp hd
            obtain ⟨q, t, rfl, _⟩ := hz z h
            exact ⟨_, _, rfl⟩
          · obtain ⟨q, t, rfl, _⟩ := hz z h
            exact dep_trD t
          · refine ⟨sp, _, _, rfl, S4.same (si.trans (Same.upd nsp)) (by omega), zs.mergeSort (PySem.W.dataLe false (·.2)), upd_same, by rw [List.length_mergeSort]; omega, fun z h => ?_⟩
            obtain ⟨q, t, e1, e2, e3⟩ := hz z ((List.mergeSort_perm _ _).mem_iff.mp h)
            exact ⟨q, t, e1, e2.up fun c ys g => (Same.upd nsp) _ _ g, e3⟩
      rintro σ H5 ⟨rl, y4, y10, rfl, S5, R5⟩
      clear S4
      -- a book of two names
      refine ⟨(fun σ HC => ∃ (y2 y7 y10 : Option V), σ = [some (.ref a), some (.ref p), y2, some (.int b), some (.ref bk), some (.ref th2), some (.int (11 + (mn : Int))), y7, x8, x9, y10, x11] ∧ Sw w p pc bk rr b ns rows kvs (10000 * i + 1001) th2 19 HC), ?_, ?_⟩
      · obtain ⟨vs, g1, g2, g3⟩ := S5.lst
        obtain ⟨zs, z1, z2, z3⟩ := R5.ex
        refine ⟨_, rfl, .inl ⟨rfl, _, SqL.of g1⟩, fun dp ndp => ?_⟩
        have sx : Same H5 (upd H5 dp (.dK [])) := Same.upd ndp
        refine ⟨_, rfl, rl, _, rfl, .inl ⟨SqL.of (sx _ _ z1), fun tp ntp => ?_⟩⟩
        have htp : upd (upd H5 dp (.dK [])) tp (.tup (zs.map (·.1))) tp = some (.tup (zs.map (·.1))) := upd_same
        have s6 : Same (upd H5 dp (.dK [])) (upd (upd H5 dp (.dK [])) tp (.tup (zs.map (·.1)))) := Same.upd ntp
        have hdp6 := s6 _ _ (upd_same : upd H5 dp (.dK []) dp = _)
        have s56 := sx.trans s6
        generalize upd (upd H5 dp (.dK [])) tp (.tup (zs.map (·.1))) = H6 at htp s6 hdp6 s56
        refine ⟨.tuple [tr1 0 "a" 1 3, tr1 0 "a" 2 3], rfl, fun _ => none, (fun _ _ h => nomatch h), fun v2 G2 H7 m2 d2 => ?_⟩
        have hdp7 := m2.hh _ _ hdp6
        have em : mergeK [] [((Sum.inr ("a" : Str) : Key), V.ref tp), ((Sum.inr ("b" : Str) : Key), v2)] = [((Sum.inr ("a" : Str) : Key), V.ref tp), ((Sum.inr ("b" : Str) : Key), v2)] := by rfl
        refine ⟨hdp7, [((Sum.inr ("a" : Str) : Key), V.ref tp), ((Sum.inr ("b" : Str) : Key), v2)], rfl, (by show 2 ≤ 15; decide), ?_⟩
        rw [em]
        refine ⟨dp, .inl ⟨_, upd_same, fun od df => ⟨(by show 2 ≤ sizeLine; decide), fun c Hc sc hc => ?_⟩⟩⟩
        rw [upd_upd] at df sc
        have nd5 : ∀ c o, H5 c = some o → c ≠ dp := fun c o g => ne_of_none g ndp
        have s7c : ∀ c o, c ≠ dp → H7 c = some o → Hc c = some o := fun c o n g => sc _ _ (by rw [upd_ne n]; exact g)
        have s5c : Same H5 Hc := fun c o g => s7c c o (nd5 c o g) (m2.hh _ _ (s56 _ _ g))
        have Sc := S5.same s5c (Nat.le_refl _)
        have hthc := s5c _ _ g1
        have ntup : ∀ q ys, Hc q = some (.tup ys) → off (off Hc th2) p q = some (.tup ys) := fun q ys g => by
          have := PenD.tup_off Sc.pen g
          have qp : q ≠ p := fun z => by rw [z, off_at] at this; cases this
          rw [off_ne qp, off_ne fun z => by rw [z, hthc] at g; cases g]; exact g
        have dpt : dp ≠ th2 := fun z => by rw [z, g1] at ndp; cases ndp
        have dpp : dp ≠ p := fun z => S5.pen.some (by rw [← z]; exact ndp)
        have fin : DX w p SB (off Hc th2) (.ref c) := by
          obtain ⟨od', u', es, ep, g, r⟩ := id (df.mono sc)
          have gg : off (off Hc th2) p dp = some (.frz od' u') := by rw [off_ne dpp, off_ne dpt]; exact g
          have tpd : tp ≠ dp := fun z => by rw [z] at htp; rw [hdp6] at htp; cases htp
          have htpc : Hc tp = some (.tup (zs.map (·.1))) := s7c _ _ tpd (m2.hh _ _ htp)
          have drow : DxAll w (off (off Hc th2) p) (zs.map (·.1)) (zs.map (·.2)) := dxall_mem fun z h => by
            obtain ⟨q, t, rfl, e2, _⟩ := z3 z h
            exact (e2.up fun c ys g => ntup _ _ (s5c _ _ g)).dx
          have d2' : Dx w (off (off Hc th2) p) v2 _ := d2.mono fun c o g => by
            have old : ∀ b, H6 b ≠ none → G2 b = none := fun b h => m2.old b h
            have cp : c ≠ p := fun z => by rw [z, old p (keep_ne s56 S5.pen.some)] at g; cases g
            have ct : c ≠ th2 := fun z => by rw [z, old th2 (keep_ne s56 (by rw [g1]; exact fun z => nomatch z))] at g; cases g
            have cd : c ≠ dp := fun z => by rw [z, old dp (by rw [hdp6]; exact fun z => nomatch z)] at g; cases g
            rw [off_ne cp, off_ne ct]
            exact s7c _ _ cd (m2.gh _ _ g)
          refine ⟨.tuple [.int 10, .dict [(.str "a", .tuple (zs.map (·.2))), (.str "b", .tuple [tr1 0 "a" 1 3, tr1 0 "a" 2 3])]], .tup (ntup _ _ hc) (.cons (.int 10) (.cons (.dct (df_leaf (df.mono sc) g gg fun x hx => ?_) (.cons (.str _) (.cons (.str _) .nil)) (.cons (.tup (ntup _ _ htpc) drow) (.cons d2' .nil))) .nil)), ?_, ?_⟩
          · obtain ⟨y, hy, rfl⟩ := List.mem_map.mp hx
            exact kN_kv _ _
          · have zr : Sz 470000 5 (.tuple (zs.map (·.2))) := sd_t13 (fun d hd => by
              obtain ⟨z, h, rfl⟩ := List.mem_map.mp hd
              obtain ⟨q, t, rfl, _, e3⟩ := z3 z h
              exact e3.sz) (by rw [List.length_map]; exact z2)
            have z4 : Sz 470000 5 (.tuple [tr1 0 "a" 1 3, tr1 0 "a" 2 3]) := sd_t13 (fun d hd => by
              simp only [List.mem_cons, List.not_mem_nil, or_false] at hd
              rcases hd with rfl | rfl
              · exact sd_tr sd_ab.1 (by decide) (by decide) (by decide)
              · exact sd_tr sd_ab.1 (by decide) (by decide) (by decide)) (by show 2 ≤ 13; decide)
            exact (sz_two ((sd_i (i := 10) (by decide)).up (Nat.le_refl _) (by decide)) (sz_dct2 (B := 4000) (C := 470000) (k := 5) (n := 2) (fun d hd => by
              simp only [List.mem_cons, List.not_mem_nil, or_false] at hd
              rcases hd with rfl | rfl
              · exact ⟨sd_ab.1.up (by decide) (by decide), zr⟩
              · exact ⟨sd_ab.2.up (by decide) (by decide), z4⟩) (by show 2 ≤ 2; decide))).up (by decide) (by decide)
          · refine fine_dct fun k hk => ?_
            simp only [List.map_cons, List.map_nil, List.mem_cons, List.not_mem_nil, or_false] at hk
            rcases hk with rfl | rfl
            · exact strOk_ab.1
            · exact strOk_ab.2
        exact ⟨th2, vs, _, rfl, rfl, hthc, by rw [sizeLine_eq]; omega, _, _, _, rfl, Sc.app hthc fin⟩
      rintro σ H6 ⟨y5, y7, y10', rfl, S6⟩
      clear S5 R5
      -- two more
      refine ⟨(fun σ HC => ∃ (th : Addr) (y2 y7 y10 : Option V), σ = [some (.ref a), some (.ref p), y2, some (.int b), some (.ref bk), some (.ref th), some (.int (11 + (mn : Int))), y7, x8, x9, y10, x11] ∧ Sw w p pc bk rr b ns rows kvs (10000 * i + 1001) th 21 HC), ?_, ?_⟩
      · refine ⟨_, rfl, two1 b, rfl, off H6 p, off_same, fun vs1 G1 H7 m1 d1 => ⟨by rw [d1.len]; show 2 ≤ sizeLine; decide, fun l nl => ?_⟩⟩
        have s7 := m1.hh.trans (Same.upd (o := .lst vs1) nl)
        have itm := dx_items (p := p) (H := upd H7 l (.lst vs1)) d1 ((nw_off m1 S6.pen.some).trans (off_of (Same.upd nl))) (two1_ok bn)
        have S7 := S6.same s7 (Nat.le_refl _)
        have hl : upd H7 l (.lst vs1) l = some (.lst vs1) := upd_same
        have l1 : vs1.length = 2 := d1.len
        generalize upd H7 l (.lst vs1) = H8 at s7 itm S7 hl
        obtain ⟨vs, g1, g2, g3⟩ := S7.lst
        refine ⟨th2, l, vs, vs1, rfl, rfl, g1, hl, by rw [sizeLine_eq]; omega, fun q nq => ?_⟩
        exact ⟨q, _, _, _, rfl, S7.cat (m := 2) g1 nq itm (by omega)⟩
      rintro σ H7 ⟨th3, y6, y8, y11, rfl, S7⟩
      clear S6
      refine ⟨(fun σ HC => ∃ (th : Addr) (y2 y7 y10 : Option V), σ = [some (.ref a), some (.ref p), y2, some (.int b), some (.ref bk), some (.ref th), some (.int (11 + (mn : Int))), y7, x8, x9, y10, x11] ∧ Sw w p pc bk rr b ns rows kvs (10000 * i + 1001) th 23 HC), ?_, ?_⟩
      · refine ⟨_, rfl, two2 b, rfl, off H7 p, off_same, fun vs1 G1 H8 m1 d1 => ⟨by rw [d1.len]; show 2 ≤ sizeLine; decide, fun l nl => ?_⟩⟩
        have s7 := m1.hh.trans (Same.upd (o := .lst vs1) nl)
        have itm := dx_items (p := p) (H := upd H8 l (.lst vs1)) d1 ((nw_off m1 S7.pen.some).trans (off_of (Same.upd nl))) (two2_ok bn)
        have S8 := S7.same s7 (Nat.le_refl _)
        have hl : upd H8 l (.lst vs1) l = some (.lst vs1) := upd_same
        have l1 : vs1.length = 2 := d1.len
        generalize upd H8 l (.lst vs1) = H9 at s7 itm S8 hl
        obtain ⟨vs, g1, g2, g3⟩ := S8.lst
        refine ⟨th3, l, vs, vs1, rfl, rfl, g1, hl, by rw [sizeLine_eq]; omega, fun q nq => ?_⟩
        exact ⟨q, _, _, _, rfl, S8.cat (m := 2) g1 nq itm (by omega)⟩
      rintro σ H8 ⟨th4, y7', y8', y11', rfl, S8⟩
      clear S7
      -- the base and something
      refine ⟨(fun σ HC => ∃ (th : Addr) (y2 y7 y10 y11 : Option V), σ = [some (.ref a), some (.ref p), y2, some (.int b), some (.ref bk), some (.ref th), some (.int (11 + (mn : Int))), y7, x8, x9, y10, y11] ∧ Sw w p pc bk rr b ns rows kvs (10000 * i + 1001) th 32 HC), ?_, ?_⟩
      · refine ⟨_, rfl, off H8 p, off_same, fun vs1 G1 H9 m1 d1 => ⟨by rw [d1.len]; decide, fun l nl1 => ?_⟩⟩
        have s1 : Same H8 (upd H9 l (.lst vs1)) := m1.hh.trans (Same.upd nl1)
        have hl1 : (upd H9 l (.lst vs1)) l = some (.lst vs1) := upd_same
        have e1 := (d1.mono (nw_off m1 S8.pen.some)).mono (off_of (Same.upd (o := .lst vs1) nl1))
        have S9 := S8.same s1 (Nat.le_refl _)
        have ln1 : vs1.length = 9 := d1.len
        generalize upd H9 l (.lst vs1) = H2' at s1 hl1 e1 S9
        refine ⟨l, rfl, ⟨_, SqL.of hl1⟩, fun D nD => ?_⟩
        have Dp : D ≠ p := S9.pen.not nD
        refine lc_it (walk_list (K := K) (a := l) (xs := vs1)) (fun j Hi => Same H2' Hi ∧ ∃ ys : List V, Hi D = some (.lst ys) ∧ ys.length = j ∧ ∀ y ∈ ys, DX w p SB (off Hi D) y)
          ⟨Same.upd nD, [], upd_same, rfl, fun _ h => nomatch h⟩ (fun j Hi _ q => SqL.of (q.1 _ _ hl1)) ?_ ?_
        · rintro j x Hi Hj hj ⟨si, ys, hD, yl, hy⟩ ⟨rfl, hx⟩
          refine ⟨rfl, ?_⟩
          refine ⟨_, rfl, _, rfl, (by show 2 ≤ sizeLine; decide), fun q Hk sk hq => ?_⟩
          have hDk := sk _ _ hD
          have qD : q ≠ D := fun z => by rw [z, hDk] at hq; cases hq
          refine ⟨ys, hDk, by rw [sizeLine_eq]; omega, ?_⟩
          have ag : ∀ c, c ≠ D → upd Hk D (.lst (ys ++ [.ref q])) c = Hk c := fun c hc => upd_ne hc
          have st : ∀ c o, c ≠ p → c ≠ D → Hj c = some o → upd Hk D (.lst (ys ++ [.ref q])) c = some o := fun c o h1 h2 g => by rw [ag c h2]; exact sk _ _ g
          refine ⟨fun c o g => ?_, ys ++ [.ref q], upd_same, by rw [List.length_append, yl]; rfl, fun y hyy => ?_⟩
          · have cD : c ≠ D := ne_of_none g nD
            rw [ag c cD]; exact sk _ _ (si _ _ g)
          · rcases List.mem_append.mp hyy with h | h
            · exact (hy y h).but (but_off st)
            · rw [List.mem_singleton.mp h]
              obtain ⟨d, ed, dx⟩ := e1.get hx
              have din := List.mem_of_getElem? ed
              have qp : q ≠ p := fun z => by
                have := PenD.tup_off ((S9.pen.same si (Nat.le_refl _)).same sk (Nat.le_refl _)) hq
                rw [z, off_at] at this; cases this
              have so : Same (off H2' p) (off (off (upd Hk D (.lst (ys ++ [.ref q]))) D) p) := fun c o g => by
                have cp : c ≠ p := fun z => by rw [z, off_at] at g; cases g
                rw [off_ne cp] at g
                have cD : c ≠ D := ne_of_none g nD
                rw [off_ne cp, off_ne cD, ag c cD]; exact sk _ _ (si _ _ g)
              exact ⟨.tuple [.int b, d], .tup (by rw [off_ne qp, off_ne qD, ag q qD]; exact hq) (.cons (.int b) (.cons (dx.mono so) .nil)), oddL_ok bn d din⟩
        · rintro Hi ⟨si, ys, hD, yl, hy⟩
          have l9 : ys.length = 9 := by rw [yl, ln1]
          have Si := S9.same si (Nat.le_refl _)
          obtain ⟨vs, g1, g2, g3⟩ := Si.lst
          refine ⟨th4, D, vs, ys, rfl, rfl, g1, hD, by rw [sizeLine_eq]; omega, fun q nq => ?_⟩
          exact ⟨q, _, _, _, _, rfl, Si.cat (m := 9) g1 nq (fun y h => (hy y h).but (But.of off_same)) (by omega)⟩
      rintro σ H9 ⟨th5, y8'', y9, y12, y13, rfl, S9⟩
      clear S8
      -- the last one
      refine ⟨_, rfl, p, pc, 3, _, rfl, by decide, by decide, S9.pen, by omega, fun m6 H10 m60 m61 b10 C10 => ?_⟩
      refine ⟨_, _, rfl, rfl, ?_⟩
      have S10 := S9.but b10 C10
      clear S9 b10 C10
      refine ⟨(fun σ HC => ∃ (y2 y7 y10 y11 : Option V), σ = [some (.ref a), some (.ref p), y2, some (.int b), some (.ref bk), some (.ref th5), some (.int (99 + m6)), y7, x8, x9, y10, y11] ∧ Sw w p pc bk rr b ns rows kvs (10000 * i + 1002) th5 33 HC), ?_, ?_⟩
      · obtain ⟨vs, g1, g2, g3⟩ := S10.lst
        refine ⟨_, rfl, .inl ⟨rfl, _, SqL.of g1⟩, lastD (99 + m6), rfl, fun _ => none, (fun _ _ h => nomatch h), fun v G1 Hc m1 d1 => ?_⟩
        have Sc := S10.same m1.hh (Nat.le_refl _)
        have hthc := m1.hh _ _ g1
        have dv : DX w p SB (off Hc th5) v := ⟨_, d1.mono fun c o g => by
          have cp : c ≠ p := fun z => by rw [z, m1.old p S10.pen.some] at g; cases g
          have ct : c ≠ th5 := fun z => by rw [z, m1.old th5 (by rw [g1]; exact fun z => nomatch z)] at g; cases g
          rw [off_ne cp, off_ne ct]
          exact m1.gh _ _ g, lastD_ok (by omega) (by omega)⟩
        exact ⟨th5, vs, _, rfl, rfl, hthc, by rw [sizeLine_eq]; omega, _, _, _, _, rfl, (Sc.app hthc dv).same (Same.refl _) (by omega)⟩
      rintro σ HE ⟨y14, y15, y16, y17, rfl, SE⟩
      clear S10
      obtain ⟨vs, hth, vl, hvs⟩ := SE.lst
      refine ⟨_, rfl, th5, rfl, ⟨_, SqL.of hth⟩, for_it (walk_list (K := K) (a := th5) (xs := vs)) (fun j σ Ho => ∃ (x8 x9 : Option V), σ = [some (.ref a), some (.ref p), y14, some (.int b), some (.ref bk), some (.ref th5), some (.int (99 + m6)), y15, x8, x9, y16, y17] ∧ Same HE Ho) ⟨_, _, rfl, Same.refl _⟩ ?_ ?_ ?_⟩
      · rintro j σ Ho hj ⟨_, _, _, so⟩
        exact SqL.of (so _ _ hth)
      · rintro j x σ Ho Ho' hj ⟨x8, x9, rfl, so⟩ ⟨rfl, hx⟩
        obtain ⟨d, dx, sd, fd⟩ := (hvs x (List.mem_of_getElem? hx)).but (But.of (off_same.trans so))
        have dx' := dx.mono off_same
        have dp : d.depth ≤ 100 := by have := sd.dp; omega
        have sz : d.shown.length ≤ sizeLine := by have := sd.ln; rw [sizeLine_eq]; omega
        have sz2 : d.shown.length ≤ 16770000 := by have := sd.ln; omega
        refine ⟨_, rfl, x, d, rfl, dx', sd.sh, dp, sz, ?_⟩
        have lb : ∀ q : Bool, (PyData.bool q).shown.length ≤ sizeLine := fun q => by cases q <;> (rw [sizeLine_eq]; decide +kernel)
        refine ⟨_, rfl, x, d, rfl, dx', fd, fun H7 s7 => ?_⟩
        refine ⟨_, rfl, x, d, rfl, dx'.mono s7, sz2, fun H8 s8 => ?_⟩
        have bo : (PyData.bool (isSharedD d)).showable = true ∧ (PyData.bool (isSharedD d)).depth ≤ 100 ∧ (PyData.bool (isSharedD d)).shown.length ≤ sizeLine := ⟨by simp only [PyData.showable], by simp only [PyData.depth]; omega, lb _⟩
        refine ⟨.bl (isSharedD d), .bl (isSharedD d), .bool (isSharedD d), .bool (isSharedD d), rfl, .bl _, .bl _, bo, bo, ?_⟩
        rw [decide_eq_true rfl]
        refine ⟨_, rfl, ifF rfl ?_⟩
        refine ⟨_, rfl, x, d, rfl, dx'.mono (s7.trans s8), sd.sh, dp, sz, _, rfl, rfl, _, rfl, ifF (by simp) ?_⟩
        exact ⟨_, _, rfl, so.trans (s7.trans s8)⟩
      · rintro σ Ho ⟨x8, x9, rfl, so⟩
        exact ⟨_, _, _, _, _, _, _, _, _, _, rfl, SE.pen.same so (by omega)⟩
    · rintro σ H2 ⟨x2, x3, x4, x5, x6, x7, x8, x9, x10, x11, rfl, C2⟩
      exact k H2
end
end My

namespace My
open PySem PySem.Spec PyProof.Rows L2
theorem all_mk {l : PySem.W.OpenLaw} {w : World} {K : PySem.W.Frag} {h : Heap} {mg : Str → Option Value} {fa f1 f2 f3 f4 f5 f6 f7 f8 f9 f10 f11 f12 f13 f14 f15 f16 f17 f18 f19 f20 f21 f22 f23 f24 f25 f26 f27 f28 : Addr} (X : K.In h) (G : h.Ns mainGlobals mg) (hfa : mg "law" = some (.ref fa)) {tB tT : Tok}
    {od1 an1 od2 an2 od3 an3 od4 an4 od5 an5 od6 an6 od7 an7 od8 an8 od9 an9 od10 an10 od11 an11 od12 an12 od13 an13 od14 an14 od15 an15 od16 an16 od17 an17 od18 an18 od19 an19 od20 an20 od21 an21 od22 an22 od23 an23 od24 an24 od25 an25 od26 an26 od27 an27 od28 an28 : Option Addr} {sl1 sl2 sl3 sl4 sl5 sl6 sl7 sl8 sl9 sl10 sl11 sl12 sl13 sl14 sl15 sl16 sl17 sl18 sl19 sl20 sl21 sl22 sl23 sl24 sl25 sl26 sl27 sl28 : Array (Option Value)} {oc1 kV1 dc1 pm1 cd1 ct1 oc2 kV2 dc2 pm2 cd2 ct2 oc3 kV3 dc3 pm3 cd3 ct3 oc4 kV4 dc4 pm4 cd4 ct4 oc5 kV5 dc5 pm5 cd5 ct5 oc6 kV6 dc6 pm6 cd6 ct6 oc7 kV7 dc7 pm7 cd7 ct7 oc8 kV8 dc8 pm8 cd8 ct8 oc9 kV9 dc9 pm9 cd9 ct9 oc10 kV10 dc10 pm10 cd10 ct10 oc11 kV11 dc11 pm11 cd11 ct11 oc12 kV12 dc12 pm12 cd12 ct12 oc13 kV13 dc13 pm13 cd13 ct13 oc14 kV14 dc14 pm14 cd14 ct14 oc15 kV15 dc15 pm15 cd15 ct15 oc16 kV16 dc16 pm16 cd16 ct16 oc17 kV17 dc17 pm17 cd17 ct17 oc18 kV18 dc18 pm18 cd18 ct18 oc19 kV19 dc19 pm19 cd19 ct19 oc20 kV20 dc20 pm20 cd20 ct20 oc21 kV21 dc21 pm21 cd21 ct21 oc22 kV22 dc22 pm22 cd22 ct22 oc23 kV23 dc23 pm23 cd23 ct23 oc24 kV24 dc24 pm24 cd24 ct24 oc25 kV25 dc25 pm25 cd25 ct25 oc26 kV26 dc26 pm26 cd26 ct26 oc27 kV27 dc27 pm27 cd27 ct27 oc28 kV28 dc28 pm28 cd28 ct28 : Value}
    (a1 : PySem.W.nsIn K mainGlobals "is_whole" = some (some (.ref f1))) (l1 : K.lookup f1 = some ⟨oc1, od1, .func (PySem.W.fnOf "is_whole" "is_whole" (defArgs sWholeX) (defBody sWholeX) (defScope sWholeX) .none kV1 dc1 pm1 an1 cd1 ct1), sl1⟩) (c1 : PySem.W.codeIn K cd1 "is_whole" = true) (k1 : PySem.W.keepIn K (.ref f1) = true)
    (a2 : PySem.W.nsIn K mainGlobals "is_base" = some (some (.ref f2))) (l2 : K.lookup f2 = some ⟨oc2, od2, .func (PySem.W.fnOf "is_base" "is_base" (defArgs sBaseX) (defBody sBaseX) (defScope sBaseX) .none kV2 dc2 pm2 an2 cd2 ct2), sl2⟩) (c2 : PySem.W.codeIn K cd2 "is_base" = true) (k2 : PySem.W.keepIn K (.ref f2) = true)
    (a3 : PySem.W.nsIn K mainGlobals "is_name" = some (some (.ref f3))) (l3 : K.lookup f3 = some ⟨oc3, od3, .func (PySem.W.fnOf "is_name" "is_name" (defArgs sNameX) (defBody sNameX) (defScope sNameX) .none kV3 dc3 pm3 an3 cd3 ct3), sl3⟩) (c3 : PySem.W.codeIn K cd3 "is_name" = true) (k3 : PySem.W.keepIn K (.ref f3) = true)
    (a4 : PySem.W.nsIn K mainGlobals "has_named_rows" = some (some (.ref f4))) (l4 : K.lookup f4 = some ⟨oc4, od4, .func (PySem.W.fnOf "has_named_rows" "has_named_rows" (defArgs sNamedX) (defBody sNamedX) (defScope sNamedX) .none kV4 dc4 pm4 an4 cd4 ct4), sl4⟩) (c4 : PySem.W.codeIn K cd4 "has_named_rows" = true) (k4 : PySem.W.keepIn K (.ref f4) = true)
    (a5 : PySem.W.nsIn K mainGlobals "is_rising" = some (some (.ref f5))) (l5 : K.lookup f5 = some ⟨oc5, od5, .func (PySem.W.fnOf "is_rising" "is_rising" (defArgs sRisT) (defBody sRisT) (defScope sRisT) .none kV5 dc5 pm5 an5 cd5 ct5), sl5⟩) (c5 : PySem.W.codeIn K cd5 "is_rising" = true) (k5 : PySem.W.keepIn K (.ref f5) = true)
    (a6 : PySem.W.nsIn K mainGlobals "is_fraction" = some (some (.ref f6))) (l6 : K.lookup f6 = some ⟨oc6, od6, .func (PySem.W.fnOf "is_fraction" "is_fraction" (defArgs sFrac) (defBody sFrac) (defScope sFrac) .none kV6 dc6 pm6 an6 cd6 ct6), sl6⟩) (c6 : PySem.W.codeIn K cd6 "is_fraction" = true) (k6 : PySem.W.keepIn K (.ref f6) = true)
    (a7 : PySem.W.nsIn K mainGlobals "_is_triple" = some (some (.ref f7))) (l7 : K.lookup f7 = some ⟨oc7, od7, .func (PySem.W.fnOf "_is_triple" "_is_triple" (defArgs sTrip) (defBody sTrip) (defScope sTrip) .none kV7 dc7 pm7 an7 cd7 ct7), sl7⟩) (c7 : PySem.W.codeIn K cd7 "_is_triple" = true) (k7 : PySem.W.keepIn K (.ref f7) = true)
    (a8 : PySem.W.nsIn K mainGlobals "_common_bottom" = some (some (.ref f8))) (l8 : K.lookup f8 = some ⟨oc8, od8, .func (PySem.W.fnOf "_common_bottom" "_common_bottom" (defArgs sCbot) (defBody sCbot) (defScope sCbot) .none kV8 dc8 pm8 an8 cd8 ct8), sl8⟩) (c8 : PySem.W.codeIn K cd8 "_common_bottom" = true) (k8 : PySem.W.keepIn K (.ref f8) = true)
    (a9 : PySem.W.nsIn K mainGlobals "_in_parts" = some (some (.ref f9))) (l9 : K.lookup f9 = some ⟨oc9, od9, .func (PySem.W.fnOf "_in_parts" "_in_parts" (defArgs sInp) (defBody sInp) (defScope sInp) .none kV9 dc9 pm9 an9 cd9 ct9), sl9⟩) (c9 : PySem.W.codeIn K cd9 "_in_parts" = true) (k9 : PySem.W.keepIn K (.ref f9) = true)
    (a10 : PySem.W.nsIn K mainGlobals "_is_row" = some (some (.ref f10))) (l10 : K.lookup f10 = some ⟨oc10, od10, .func (PySem.W.fnOf "_is_row" "_is_row" (defArgs sRowS) (defBody sRowS) (defScope sRowS) .none kV10 dc10 pm10 an10 cd10 ct10), sl10⟩) (c10 : PySem.W.codeIn K cd10 "_is_row" = true) (k10 : PySem.W.keepIn K (.ref f10) = true)
    (a11 : PySem.W.nsIn K mainGlobals "is_shared" = some (some (.ref f11))) (l11 : K.lookup f11 = some ⟨oc11, od11, .func (PySem.W.fnOf "is_shared" "is_shared" (defArgs sShd) (defBody sShd) (defScope sShd) .none kV11 dc11 pm11 an11 cd11 ct11), sl11⟩) (c11 : PySem.W.codeIn K cd11 "is_shared" = true) (k11 : PySem.W.keepIn K (.ref f11) = true)
    (a12 : PySem.W.nsIn K mainGlobals "_law_stir" = some (some (.ref f12))) (l12 : K.lookup f12 = some ⟨oc12, od12, .func (PySem.W.fnOf "_law_stir" "_law_stir" (defArgs sStir) (defBody sStir) (defScope sStir) .none kV12 dc12 pm12 an12 cd12 ct12), sl12⟩) (c12 : PySem.W.codeIn K cd12 "_law_stir" = true) (k12 : PySem.W.keepIn K (.ref f12) = true)
    (a13 : PySem.W.nsIn K mainGlobals "_law_begin" = some (some (.ref f13))) (l13 : K.lookup f13 = some ⟨oc13, od13, .func (PySem.W.fnOf "_law_begin" "_law_begin" (defArgs sBegin) (defBody sBegin) (defScope sBegin) .none kV13 dc13 pm13 an13 cd13 ct13), sl13⟩) (c13 : PySem.W.codeIn K cd13 "_law_begin" = true) (k13 : PySem.W.keepIn K (.ref f13) = true)
    (a14 : PySem.W.nsIn K mainGlobals "_law_draw" = some (some (.ref f14))) (l14 : K.lookup f14 = some ⟨oc14, od14, .func (PySem.W.fnOf "_law_draw" "_law_draw" (defArgs sDraw) (defBody sDraw) (defScope sDraw) .none kV14 dc14 pm14 an14 cd14 ct14), sl14⟩) (c14 : PySem.W.codeIn K cd14 "_law_draw" = true) (k14 : PySem.W.keepIn K (.ref f14) = true)
    (a15 : PySem.W.nsIn K mainGlobals "_law_one_of" = some (some (.ref f15))) (l15 : K.lookup f15 = some ⟨oc15, od15, .func (PySem.W.fnOf "_law_one_of" "_law_one_of" (defArgs sOneOf) (defBody sOneOf) (defScope sOneOf) .none kV15 dc15 pm15 an15 cd15 ct15), sl15⟩) (c15 : PySem.W.codeIn K cd15 "_law_one_of" = true) (k15 : PySem.W.keepIn K (.ref f15) = true)
    (a16 : PySem.W.nsIn K mainGlobals "_law_some_names" = some (some (.ref f16))) (l16 : K.lookup f16 = some ⟨oc16, od16, .func (PySem.W.fnOf "_law_some_names" "_law_some_names" (defArgs sSome) (defBody sSome) (defScope sSome) .none kV16 dc16 pm16 an16 cd16 ct16), sl16⟩) (c16 : PySem.W.codeIn K cd16 "_law_some_names" = true) (k16 : PySem.W.keepIn K (.ref f16) = true)
    (a17 : PySem.W.nsIn K mainGlobals "_law_equal" = some (some (.ref f17))) (l17 : K.lookup f17 = some ⟨oc17, od17, .func (PySem.W.fnOf "_law_equal" "_law_equal" (defArgs sEqual) (defBody sEqual) (defScope sEqual) .none kV17 dc17 pm17 an17 cd17 ct17), sl17⟩) (c17 : PySem.W.codeIn K cd17 "_law_equal" = true) (k17 : PySem.W.keepIn K (.ref f17) = true)
    (a18 : PySem.W.nsIn K mainGlobals "_law_lowest" = some (some (.ref f18))) (l18 : K.lookup f18 = some ⟨oc18, od18, .func (PySem.W.fnOf "_law_lowest" "_law_lowest" (defArgs sLow) (defBody sLow) (defScope sLow) .none kV18 dc18 pm18 an18 cd18 ct18), sl18⟩) (c18 : PySem.W.codeIn K cd18 "_law_lowest" = true) (k18 : PySem.W.keepIn K (.ref f18) = true)
    (a19 : PySem.W.nsIn K mainGlobals "_law_shared" = some (some (.ref f19))) (l19 : K.lookup f19 = some ⟨oc19, od19, .func (PySem.W.fnOf "_law_shared" "_law_shared" (defArgs sShared) (defBody sShared) (defScope sShared) .none kV19 dc19 pm19 an19 cd19 ct19), sl19⟩) (c19 : PySem.W.codeIn K cd19 "_law_shared" = true) (k19 : PySem.W.keepIn K (.ref f19) = true)
    (a20 : PySem.W.nsIn K mainGlobals "_law_is_whole" = some (some (.ref f20))) (l20 : K.lookup f20 = some ⟨oc20, od20, .func (PySem.W.fnOf "_law_is_whole" "_law_is_whole" (defArgs sLWh) (defBody sLWh) (defScope sLWh) .none kV20 dc20 pm20 an20 cd20 ct20), sl20⟩) (c20 : PySem.W.codeIn K cd20 "_law_is_whole" = true) (k20 : PySem.W.keepIn K (.ref f20) = true)
    (a21 : PySem.W.nsIn K mainGlobals "_law_is_name" = some (some (.ref f21))) (l21 : K.lookup f21 = some ⟨oc21, od21, .func (PySem.W.fnOf "_law_is_name" "_law_is_name" (defArgs sLNm) (defBody sLNm) (defScope sLNm) .none kV21 dc21 pm21 an21 cd21 ct21), sl21⟩) (c21 : PySem.W.codeIn K cd21 "_law_is_name" = true) (k21 : PySem.W.keepIn K (.ref f21) = true)
    (a22 : PySem.W.nsIn K mainGlobals "_law_is_share" = some (some (.ref f22))) (l22 : K.lookup f22 = some ⟨oc22, od22, .func (PySem.W.fnOf "_law_is_share" "_law_is_share" (defArgs sLSh) (defBody sLSh) (defScope sLSh) .none kV22 dc22 pm22 an22 cd22 ct22), sl22⟩) (c22 : PySem.W.codeIn K cd22 "_law_is_share" = true) (k22 : PySem.W.keepIn K (.ref f22) = true)
    (a23 : PySem.W.nsIn K mainGlobals "_law_is_due_row" = some (some (.ref f23))) (l23 : K.lookup f23 = some ⟨oc23, od23, .func (PySem.W.fnOf "_law_is_due_row" "_law_is_due_row" (defArgs sDueR) (defBody sDueR) (defScope sDueR) .none kV23 dc23 pm23 an23 cd23 ct23), sl23⟩) (c23 : PySem.W.codeIn K cd23 "_law_is_due_row" = true) (k23 : PySem.W.keepIn K (.ref f23) = true)
    (a24 : PySem.W.nsIn K mainGlobals "_law_is_due" = some (some (.ref f24))) (l24 : K.lookup f24 = some ⟨oc24, od24, .func (PySem.W.fnOf "_law_is_due" "_law_is_due" (defArgs sDue) (defBody sDue) (defScope sDue) .none kV24 dc24 pm24 an24 cd24 ct24), sl24⟩) (c24 : PySem.W.codeIn K cd24 "_law_is_due" = true) (k24 : PySem.W.keepIn K (.ref f24) = true)
    (a25 : PySem.W.nsIn K mainGlobals "_law_odd" = some (some (.ref f25))) (l25 : K.lookup f25 = some ⟨oc25, od25, .func (PySem.W.fnOf "_law_odd" "_law_odd" (defArgs sOddS) (defBody sOddS) (defScope sOddS) .none kV25 dc25 pm25 an25 cd25 ct25), sl25⟩) (c25 : PySem.W.codeIn K cd25 "_law_odd" = true) (k25 : PySem.W.keepIn K (.ref f25) = true)
    (a26 : PySem.W.nsIn K mainGlobals "_law_bent_row" = some (some (.ref f26))) (l26 : K.lookup f26 = some ⟨oc26, od26, .func (PySem.W.fnOf "_law_bent_row" "_law_bent_row" (defArgs sBSR) (defBody sBSR) (defScope sBSR) .none kV26 dc26 pm26 an26 cd26 ct26), sl26⟩) (c26 : PySem.W.codeIn K cd26 "_law_bent_row" = true) (k26 : PySem.W.keepIn K (.ref f26) = true)
    (a27 : PySem.W.nsIn K mainGlobals "_law_bent_book" = some (some (.ref f27))) (l27 : K.lookup f27 = some ⟨oc27, od27, .func (PySem.W.fnOf "_law_bent_book" "_law_bent_book" (defArgs sBentBk) (defBody sBentBk) (defScope sBentBk) .none kV27 dc27 pm27 an27 cd27 ct27), sl27⟩) (c27 : PySem.W.codeIn K cd27 "_law_bent_book" = true) (k27 : PySem.W.keepIn K (.ref f27) = true)
    (a28 : PySem.W.nsIn K mainGlobals "law" = some (some (.ref f28))) (l28 : K.lookup f28 = some ⟨oc28, od28, .func (PySem.W.fnOf "law" "law" (defArgs sLaw9) (defBody sLaw9) (defScope sLaw9) .none kV28 dc28 pm28 an28 cd28 ct28), sl28⟩) (c28 : PySem.W.codeIn K cd28 "law" = true) (k28 : PySem.W.keepIn K (.ref f28) = true)
    (z_isinstance : PySem.W.nsIn K mainGlobals "isinstance" = some none)
    (z_len : PySem.W.nsIn K mainGlobals "len" = some none)
    (z_int : PySem.W.nsIn K mainGlobals "int" = some none)
    (z_bool : PySem.W.nsIn K mainGlobals "bool" = some none)
    (z_str : PySem.W.nsIn K mainGlobals "str" = some none)
    (z_tuple : PySem.W.nsIn K mainGlobals "tuple" = some none)
    (z_list : PySem.W.nsIn K mainGlobals "list" = some none)
    (z_dict : PySem.W.nsIn K mainGlobals "dict" = some none)
    (z_all : PySem.W.nsIn K mainGlobals "all" = some none)
    (z_zip : PySem.W.nsIn K mainGlobals "zip" = some none)
    (z_range : PySem.W.nsIn K mainGlobals "range" = some none)
    (z_sorted : PySem.W.nsIn K mainGlobals "sorted" = some none)
    (z_enumerate : PySem.W.nsIn K mainGlobals "enumerate" = some none)
    (z_repr : PySem.W.nsIn K mainGlobals "repr" = some none)
    (z_abs : PySem.W.nsIn K mainGlobals "abs" = some none)
    (z_sum : PySem.W.nsIn K mainGlobals "sum" = some none)
    (z_set : PySem.W.nsIn K mainGlobals "set" = some none)
    (zG : PySem.W.nsIn K mainGlobals "gcd" = some (some (.builtin "math.gcd")))
    (zL : PySem.W.nsIn K mainGlobals "lcm" = some (some (.builtin "math.lcm")))
    (zB : PySem.W.nsIn K mainGlobals "MOST_BOTTOM" = some (some (.int 100 tB)))
    (zT : PySem.W.nsIn K mainGlobals "MOST_TRIPLES" = some (some (.int 12 tT)))
    : ∃ fd : FuncData, (∀ (s : Shared) (v : Value), BindsTo s fd ⟨[v], []⟩ [("script", v)]) ∧ ∀ base : Heap, K.In base → base.Ns mainGlobals mg → AtTop l.prog w K mg base fa fd ["script"] (spLaw K) := by
  have e := hfa.symm.trans (PySem.W.mg_of X G a28)
  cases e
  have F1 := fun_mk (st := sWholeX) l1 c1 k1; have g1 := PySem.W.mg_of X G a1
  have F2 := fun_mk (st := sBaseX) l2 c2 k2; have g2 := PySem.W.mg_of X G a2
  have F3 := fun_mk (st := sNameX) l3 c3 k3; have g3 := PySem.W.mg_of X G a3
  have F4 := fun_mk (st := sNamedX) l4 c4 k4; have g4 := PySem.W.mg_of X G a4
  have F5 := fun_mk (st := sRisT) l5 c5 k5; have g5 := PySem.W.mg_of X G a5
  have F6 := fun_mk (st := sFrac) l6 c6 k6; have g6 := PySem.W.mg_of X G a6
  have F7 := fun_mk (st := sTrip) l7 c7 k7; have g7 := PySem.W.mg_of X G a7
  have F8 := fun_mk (st := sCbot) l8 c8 k8; have g8 := PySem.W.mg_of X G a8
  have F9 := fun_mk (st := sInp) l9 c9 k9; have g9 := PySem.W.mg_of X G a9
  have F10 := fun_mk (st := sRowS) l10 c10 k10; have g10 := PySem.W.mg_of X G a10
  have F11 := fun_mk (st := sShd) l11 c11 k11; have g11 := PySem.W.mg_of X G a11
  have F12 := fun_mk (st := sStir) l12 c12 k12; have g12 := PySem.W.mg_of X G a12
  have F13 := fun_mk (st := sBegin) l13 c13 k13; have g13 := PySem.W.mg_of X G a13
  have F14 := fun_mk (st := sDraw) l14 c14 k14; have g14 := PySem.W.mg_of X G a14
  have F15 := fun_mk (st := sOneOf) l15 c15 k15; have g15 := PySem.W.mg_of X G a15
  have F16 := fun_mk (st := sSome) l16 c16 k16; have g16 := PySem.W.mg_of X G a16
  have F17 := fun_mk (st := sEqual) l17 c17 k17; have g17 := PySem.W.mg_of X G a17
  have F18 := fun_mk (st := sLow) l18 c18 k18; have g18 := PySem.W.mg_of X G a18
  have F19 := fun_mk (st := sShared) l19 c19 k19; have g19 := PySem.W.mg_of X G a19
  have F20 := fun_mk (st := sLWh) l20 c20 k20; have g20 := PySem.W.mg_of X G a20
  have F21 := fun_mk (st := sLNm) l21 c21 k21; have g21 := PySem.W.mg_of X G a21
  have F22 := fun_mk (st := sLSh) l22 c22 k22; have g22 := PySem.W.mg_of X G a22
  have F23 := fun_mk (st := sDueR) l23 c23 k23; have g23 := PySem.W.mg_of X G a23
  have F24 := fun_mk (st := sDue) l24 c24 k24; have g24 := PySem.W.mg_of X G a24
  have F25 := fun_mk (st := sOddS) l25 c25 k25; have g25 := PySem.W.mg_of X G a25
  have F26 := fun_mk (st := sBSR) l26 c26 k26; have g26 := PySem.W.mg_of X G a26
  have F27 := fun_mk (st := sBentBk) l27 c27 k27; have g27 := PySem.W.mg_of X G a27
  have F28 := fun_mk (st := sLaw9) l28 c28 k28; have g28 := PySem.W.mg_of X G a28
  have m_isinstance := PySem.W.mg_none_of X G z_isinstance
  have m_len := PySem.W.mg_none_of X G z_len
  have m_int := PySem.W.mg_none_of X G z_int
  have m_bool := PySem.W.mg_none_of X G z_bool
  have m_str := PySem.W.mg_none_of X G z_str
  have m_tuple := PySem.W.mg_none_of X G z_tuple
  have m_list := PySem.W.mg_none_of X G z_list
  have m_dict := PySem.W.mg_none_of X G z_dict
  have m_all := PySem.W.mg_none_of X G z_all
  have m_zip := PySem.W.mg_none_of X G z_zip
  have m_range := PySem.W.mg_none_of X G z_range
  have m_sorted := PySem.W.mg_none_of X G z_sorted
  have m_enumerate := PySem.W.mg_none_of X G z_enumerate
  have m_repr := PySem.W.mg_none_of X G z_repr
  have m_abs := PySem.W.mg_none_of X G z_abs
  have m_sum := PySem.W.mg_none_of X G z_sum
  have m_set := PySem.W.mg_none_of X G z_set
  have b1 := F1.binds (ps := ["thing"]) fun _ _ _ _ _ _ us hl => match us, hl with | [_], _ => rfl
  have b2 := F2.binds (ps := ["thing"]) fun _ _ _ _ _ _ us hl => match us, hl with | [_], _ => rfl
  have b3 := F3.binds (ps := ["thing"]) fun _ _ _ _ _ _ us hl => match us, hl with | [_], _ => rfl
  have b4 := F4.binds (ps := ["thing"]) fun _ _ _ _ _ _ us hl => match us, hl with | [_], _ => rfl
  have b5 := F5.binds (ps := ["row"]) fun _ _ _ _ _ _ us hl => match us, hl with | [_], _ => rfl
  have b6 := F6.binds (ps := ["thing"]) fun _ _ _ _ _ _ us hl => match us, hl with | [_], _ => rfl
  have b7 := F7.binds (ps := ["book", "thing"]) fun _ _ _ _ _ _ us hl => match us, hl with | [_, _], _ => rfl
  have b8 := F8.binds (ps := ["fractions"]) fun _ _ _ _ _ _ us hl => match us, hl with | [_], _ => rfl
  have b9 := F9.binds (ps := ["whole", "fractions"]) fun _ _ _ _ _ _ us hl => match us, hl with | [_, _], _ => rfl
  have b10 := F10.binds (ps := ["book", "row"]) fun _ _ _ _ _ _ us hl => match us, hl with | [_, _], _ => rfl
  have b11 := F11.binds (ps := ["thing"]) fun _ _ _ _ _ _ us hl => match us, hl with | [_], _ => rfl
  have b12 := F12.binds (ps := ["cell", "at"]) fun _ _ _ _ _ _ us hl => match us, hl with | [_, _], _ => rfl
  have b13 := F13.binds (ps := ["script"]) fun _ _ _ _ _ _ us hl => match us, hl with | [_], _ => rfl
  have b14 := F14.binds (ps := ["pen", "many"]) fun _ _ _ _ _ _ us hl => match us, hl with | [_, _], _ => rfl
  have b15 := F15.binds (ps := ["pen", "some"]) fun _ _ _ _ _ _ us hl => match us, hl with | [_, _], _ => rfl
  have b16 := F16.binds (ps := ["pen", "many"]) fun _ _ _ _ _ _ us hl => match us, hl with | [_, _], _ => rfl
  have b17 := F17.binds (ps := ["found", "due"]) fun _ _ _ _ _ _ us hl => match us, hl with | [_, _], _ => rfl
  have b18 := F18.binds (ps := ["top", "below"]) fun _ _ _ _ _ _ us hl => match us, hl with | [_, _], _ => rfl
  have b19 := F19.binds (ps := ["pen", "base", "many", "most"]) fun _ _ _ _ _ _ us hl => match us, hl with | [_, _, _, _], _ => rfl
  have b20 := F20.binds (ps := ["thing"]) fun _ _ _ _ _ _ us hl => match us, hl with | [_], _ => rfl
  have b21 := F21.binds (ps := ["thing"]) fun _ _ _ _ _ _ us hl => match us, hl with | [_], _ => rfl
  have b22 := F22.binds (ps := ["thing"]) fun _ _ _ _ _ _ us hl => match us, hl with | [_], _ => rfl
  have b23 := F23.binds (ps := ["base", "rows", "row"]) fun _ _ _ _ _ _ us hl => match us, hl with | [_, _, _], _ => rfl
  have b24 := F24.binds (ps := ["thing"]) fun _ _ _ _ _ _ us hl => match us, hl with | [_], _ => rfl
  have b25 := F25.binds (ps := ["pen"]) fun _ _ _ _ _ _ us hl => match us, hl with | [_], _ => rfl
  have b26 := F26.binds (ps := ["pen", "row"]) fun _ _ _ _ _ _ us hl => match us, hl with | [_, _], _ => rfl
  have b27 := F27.binds (ps := ["pen", "book"]) fun _ _ _ _ _ _ us hl => match us, hl with | [_, _], _ => rfl
  have T : TxP mg := ⟨m_isinstance, m_len, m_int, m_bool, m_tuple, m_str, m_dict, m_all, m_zip, m_list, m_range⟩
  have TD : TxD mg := ⟨m_len, m_range, m_abs, m_enumerate⟩
  have TS : TxS mg := ⟨m_len, m_range, m_tuple, m_sorted, m_sum⟩
  refine ⟨PySem.W.fnOf "law" "law" (defArgs sLaw9) (defBody sLaw9) (defScope sLaw9) .none kV28 dc28 pm28 an28 cd28 ct28, fun s v => .of_eq rfl, fun base _ _ => ?_⟩
  have GT := ok_draw (P := l.prog) (w := w) (base := base) F14 TD F12 b12 g12
  have GOn := ok_oneof (P := l.prog) (w := w) (base := base) F15 m_len F14 GT b14 g14
  have GSn := ok_some (P := l.prog) (w := w) (base := base) F16 TD F14 GT b14 g14 F15 GOn b15 g15
  have GLo := ok_low (P := l.prog) (w := w) (base := base) F18 TD
  have GSd := ok_shared (P := l.prog) (w := w) (base := base) F19 TS F14 GT b14 g14 F15 GOn b15 g15 F16 GSn b16 g16 F18 GLo b18 g18
  have GO := ok_oddS (P := l.prog) (w := w) (base := base) F25 F15 GOn b15 g15
  have GBr := ok_bsr (P := l.prog) (w := w) (base := base) F26 TS m_list F14 GT b14 g14 F15 GOn b15 g15 F25 GO b25 g25
  have GBt := ok_bentbk (P := l.prog) (w := w) (base := base) F27 TS m_list m_dict F14 GT b14 g14 F15 GOn b15 g15 F25 GO b25 g25 F26 GBr b26 g26
  have GFr := ok_frac (P := l.prog) (w := w) (base := base) F6 T (PySem.W.mg_of X G zG) F1 b1 g1
  have GTr := ok_trip (P := l.prog) (w := w) (base := base) F7 T ⟨tB, PySem.W.mg_of X G zB⟩ F1 b1 g1 F6 GFr b6 g6
  have GCb := ok_cbot (P := l.prog) (w := w) (base := base) F8 (PySem.W.mg_of X G zL)
  have GIp := ok_inp (P := l.prog) (w := w) (mg := mg) (base := base) F9
  have GIr := ok_isrowS (P := l.prog) (w := w) (base := base) F10 T m_sum ⟨tT, PySem.W.mg_of X G zT⟩ F7 GTr b7 g7 F5 b5 g5 F8 GCb b8 g8 F9 GIp b9 g9
  have GNm := ok_namedX (P := l.prog) (w := w) (base := base) F4 T F1 b1 g1 F2 b2 g2 F3 b3 g3
  have GIs := ok_shd (P := l.prog) (w := w) (base := base) F11 T F4 GNm b4 g4 F10 GIr b10 g10
  have GSh := ok_lsh (P := l.prog) (w := w) (base := base) F22 T F20 b20 g20 F18 GLo b18 g18
  have GDr := ok_dueR (P := l.prog) (w := w) (base := base) F23 T m_list m_set m_sorted F20 b20 g20 F21 b21 g21 F22 GSh b22 g22 F18 GLo b18 g18
  have GDu := ok_due (P := l.prog) (w := w) (base := base) F24 T F20 b20 g20 F21 b21 g21 F23 GDr b23 g23
  have GEq := ok_equal (P := l.prog) (w := w) (base := base) F17 m_repr
  exact ok_law9 F28 ⟨m_range, m_tuple, m_sorted, m_repr⟩ F13 (ok_begin F13 TD) b13 g13 F14 GT b14 g14 F19 GSd b19 g19 F27 GBt b27 g27 F11 GIs b11 g11 F24 GDu b24 g24 F17 GEq b17 g17
end My
open PySem PySem.W PyProof.Rows
set_option maxRecDepth 100000 in
set_option maxHeartbeats 0 in
theorem PySem.Challenge.cw_dustwithin_k69_shared_books_of_anything_holds : PySem.Challenge.rw_dustwithin_k69_shared_books_of_anything.Holds := by
  w_on; o_law; k_head; (case hw => w_witness2)
  k_fill
  refine My.walk_top (l := PySem.Challenge.rw_dustwithin_k69_shared_books_of_anything) (n := 63) (x := "script") (sp := fun w => My.spLaw _) rfl (by decide) rfl (fun w h Y => PySem.W.kIn_of Y) ?F (fun _ _ a ns hl _ hS => ⟨a, ns, rfl, hS, hl, fun _ => rfl⟩)
  case F =>
    intro w mg fa h KX G hmg
    refine' My.all_mk KX G hmg ?a1 ?l1 ?c1 ?k1 ?a2 ?l2 ?c2 ?k2 ?a3 ?l3 ?c3 ?k3 ?a4 ?l4 ?c4 ?k4 ?a5 ?l5 ?c5 ?k5 ?a6 ?l6 ?c6 ?k6 ?a7 ?l7 ?c7 ?k7 ?a8 ?l8 ?c8 ?k8 ?a9 ?l9 ?c9 ?k9 ?a10 ?l10 ?c10 ?k10 ?a11 ?l11 ?c11 ?k11 ?a12 ?l12 ?c12 ?k12 ?a13 ?l13 ?c13 ?k13 ?a14 ?l14 ?c14 ?k14 ?a15 ?l15 ?c15 ?k15 ?a16 ?l16 ?c16 ?k16 ?a17 ?l17 ?c17 ?k17 ?a18 ?l18 ?c18 ?k18 ?a19 ?l19 ?c19 ?k19 ?a20 ?l20 ?c20 ?k20 ?a21 ?l21 ?c21 ?k21 ?a22 ?l22 ?c22 ?k22 ?a23 ?l23 ?c23 ?k23 ?a24 ?l24 ?c24 ?k24 ?a25 ?l25 ?c25 ?k25 ?a26 ?l26 ?c26 ?k26 ?a27 ?l27 ?c27 ?k27 ?a28 ?l28 ?c28 ?k28 ?z_isinstance ?z_len ?z_int ?z_bool ?z_str ?z_tuple ?z_list ?z_dict ?z_all ?z_zip ?z_range ?z_sorted ?z_enumerate ?z_repr ?z_abs ?z_sum ?z_set ?zG ?zL ?zB ?zT
    (case a1 => k_is); (case l1 => k_is); (case c1 => k_is); (case k1 => k_is); (case a2 => k_is); (case l2 => k_is)
    (case c2 => k_is); (case k2 => k_is); (case a3 => k_is); (case l3 => k_is); (case c3 => k_is); (case k3 => k_is)
    (case a4 => k_is); (case l4 => k_is); (case c4 => k_is); (case k4 => k_is); (case a5 => k_is); (case l5 => k_is)
    (case c5 => k_is); (case k5 => k_is); (case a6 => k_is); (case l6 => k_is); (case c6 => k_is); (case k6 => k_is)
    (case a7 => k_is); (case l7 => k_is); (case c7 => k_is); (case k7 => k_is); (case a8 => k_is); (case l8 => k_is)
    (case c8 => k_is); (case k8 => k_is); (case a9 => k_is); (case l9 => k_is); (case c9 => k_is); (case k9 => k_is)
    (case a10 => k_is); (case l10 => k_is); (case c10 => k_is); (case k10 => k_is); (case a11 => k_is); (case l11 => k_is)
    (case c11 => k_is); (case k11 => k_is); (case a12 => k_is); (case l12 => k_is); (case c12 => k_is); (case k12 => k_is)
    (case a13 => k_is); (case l13 => k_is); (case c13 => k_is); (case k13 => k_is); (case a14 => k_is); (case l14 => k_is)
    (case c14 => k_is); (case k14 => k_is); (case a15 => k_is); (case l15 => k_is); (case c15 => k_is); (case k15 => k_is)
    (case a16 => k_is); (case l16 => k_is); (case c16 => k_is); (case k16 => k_is); (case a17 => k_is); (case l17 => k_is)
    (case c17 => k_is); (case k17 => k_is); (case a18 => k_is); (case l18 => k_is); (case c18 => k_is); (case k18 => k_is)
    (case a19 => k_is); (case l19 => k_is); (case c19 => k_is); (case k19 => k_is); (case a20 => k_is); (case l20 => k_is)
    (case c20 => k_is); (case k20 => k_is); (case a21 => k_is); (case l21 => k_is); (case c21 => k_is); (case k21 => k_is)
    (case a22 => k_is); (case l22 => k_is); (case c22 => k_is); (case k22 => k_is); (case a23 => k_is); (case l23 => k_is)
    (case c23 => k_is); (case k23 => k_is); (case a24 => k_is); (case l24 => k_is); (case c24 => k_is); (case k24 => k_is)
    (case a25 => k_is); (case l25 => k_is); (case c25 => k_is); (case k25 => k_is); (case a26 => k_is); (case l26 => k_is)
    (case c26 => k_is); (case k26 => k_is); (case a27 => k_is); (case l27 => k_is); (case c27 => k_is); (case k27 => k_is)
    (case a28 => k_is); (case l28 => k_is); (case c28 => k_is); (case k28 => k_is); (case z_isinstance => k_is); (case z_len => k_is)
    (case z_int => k_is); (case z_bool => k_is); (case z_str => k_is); (case z_tuple => k_is); (case z_list => k_is); (case z_dict => k_is)
    (case z_all => k_is); (case z_zip => k_is); (case z_range => k_is); (case z_sorted => k_is); (case z_enumerate => k_is); (case z_repr => k_is)
    (case z_abs => k_is); (case z_sum => k_is); (case z_set => k_is); (case zG => k_is); (case zL => k_is); (case zB => k_is)
    (case zT => k_is)
